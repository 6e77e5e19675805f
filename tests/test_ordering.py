"""ignorelines/ordering.py: [9]."""

from unittest import TestCase

import reference
from ignorelines.deciding import first_difference
from ignorelines.errors import InvalidIndex, InvalidList, TooLarge
from ignorelines.lists import Lines
from ignorelines.ordering import exchanged, free_neighbours
from ignorelines.rules import Rule
from samples import (
    MANY_STATES, NOT_INDICES, NOT_LINES, PATTERNS, SMALL, TOO_LARGE_LISTS, TOO_LARGE_RULE, some_lines,
)

PATHS = list(reference.short_paths(5, "ab"))


def many_lists():
    return some_lines(31, 150, (2, 3, 4), SMALL) + some_lines(32, 150, (2, 3, 4), PATTERNS)


class TestExamples(TestCase):
    def test_example_of_the_interface(self):
        lines = Lines.of("a*", "!ab", "c")
        told = [free_neighbours(lines), "ab" in lines, "ab" in exchanged(lines, 0)]
        self.assertEqual(told, [[1], False, True])

    def test_exchanged(self):
        lines = Lines.of("a", "!b", "/c/", "a/b")
        self.assertEqual(exchanged(lines, 0), Lines.of("!b", "a", "/c/", "a/b"))
        self.assertEqual(exchanged(lines, 1), Lines.of("a", "/c/", "!b", "a/b"))
        self.assertEqual(exchanged(lines, 2), Lines.of("a", "!b", "a/b", "/c/"))

    def test_all_neighbours_that_ignore_are_free(self):
        self.assertEqual(free_neighbours(Lines.of("a", "b/", "a", "**/c", "/a", "*")), [0, 1, 2, 3, 4])
        self.assertEqual(free_neighbours(Lines.of("!a", "!b/", "!a")), [0, 1])

    def test_neighbours_that_match_the_same_path(self):
        self.assertEqual(free_neighbours(Lines.of("a", "!a")), [])
        self.assertEqual(free_neighbours(Lines.of("!a", "a")), [])
        self.assertEqual(free_neighbours(Lines.of("a/", "!/a/")), [])

    def test_neighbours_that_match_no_path_both(self):
        self.assertEqual(free_neighbours(Lines.of("a", "!b", "c", "!.")), [0, 1, 2])
        self.assertEqual(free_neighbours(Lines.of("a/b", "!/a")), [0])

    def test_what_is_in_an_ignored_directory_does_not_matter(self):
        # Both rules match b/c, but this is ignored anyway, whatever their order.
        self.assertEqual(free_neighbours(Lines.of("b/c", "!/b/c", "b/")), [0, 1])
        self.assertEqual(free_neighbours(Lines.of("b/c", "!/b/c")), [])

    def test_a_later_rule_decides_anyway(self):
        self.assertEqual(free_neighbours(Lines.of("a", "!a", "*")), [0])
        self.assertEqual(free_neighbours(Lines.of("a", "!a", "b", "a")), [0, 1, 2])

    def test_lists_of_one_rule(self):
        for text in ("a", "!a/", "/**"):
            self.assertEqual(free_neighbours(Lines.of(text)), [])

    def test_results_are_new(self):
        lines = Lines.of("a", "b", "!c")
        told = free_neighbours(lines)
        told.append(7)
        self.assertEqual(free_neighbours(lines), [0, 1])
        self.assertIsNot(exchanged(lines, 0), exchanged(lines, 0))
        self.assertEqual(lines, Lines.of("a", "b", "!c"))


class TestAgainstReference(TestCase):
    def test_exchanged(self):
        for lines in many_lists():
            for k in range(len(lines) - 1):
                told = exchanged(lines, k)
                self.assertIs(type(told), Lines)
                self.assertEqual(list(told), reference.exchanged(list(lines), k))
                self.assertEqual(exchanged(told, k), lines)

    def test_free_neighbours(self):
        seen = {True: 0, False: 0}
        for lines in many_lists():
            told = free_neighbours(lines)
            self.assertEqual(told, reference.free_neighbours(list(lines)))
            self.assertIs(type(told), list)
            for k in range(len(lines) - 1):
                if lines[k].again != lines[k + 1].again:
                    seen[k in told] += 1
        # Pairs of both sorts occur often, even if only those are counted that may not be free.
        self.assertGreater(min(seen.values()), 50)

    def test_all_short_paths(self):
        for lines in many_lists():
            told = free_neighbours(lines)
            ignored = [path in lines for path in PATHS]
            for k in range(len(lines) - 1):
                changed = exchanged(lines, k)
                if k in told:
                    self.assertEqual([path in changed for path in PATHS], ignored)
                else:
                    path = first_difference(lines, changed)
                    self.assertNotEqual(path in lines, path in changed)

    def test_longer_lists(self):
        for lines in some_lines(33, 40, (5, 6), SMALL):
            self.assertEqual(free_neighbours(lines), reference.free_neighbours(list(lines)))


class TestErrors(TestCase):
    def test_no_list(self):
        for value in NOT_LINES:
            with self.assertRaises(InvalidList, msg=repr(value)):
                free_neighbours(value)
            for index in (0, -1, True, None):
                with self.assertRaises(InvalidList, msg=repr(value)):
                    exchanged(value, index)

    def test_no_index(self):
        for lines in (Lines.of("a"), Lines.of("a", "b"), Lines.of("a", "a", "!b"), Lines([Rule("a")] * 6)):
            last = len(lines) - 1
            for index in [*NOT_INDICES, last, last + 1]:
                with self.assertRaises(InvalidIndex, msg=repr(index)):
                    exchanged(lines, index)

    def test_each_index(self):
        for size in range(2, 7):
            lines = Lines([Rule("a")] * size)
            for index in range(size - 1):
                self.assertEqual(exchanged(lines, index), lines)

    def test_too_large(self):
        for lines in TOO_LARGE_LISTS:
            with self.assertRaises(TooLarge):
                free_neighbours(lines)
            # This one compares nothing.
            self.assertEqual(exchanged(exchanged(lines, 0), 0), lines)

    def test_too_large_though_the_neighbours_are_equal(self):
        with self.assertRaises(TooLarge):
            free_neighbours(Lines([TOO_LARGE_RULE, TOO_LARGE_RULE]))

    def test_one_rule_is_compared_with_nothing(self):
        self.assertEqual(free_neighbours(Lines([TOO_LARGE_RULE])), [])

    def test_too_large_depends_on_what_is_ignored(self):
        lines = TOO_LARGE_LISTS[0]
        self.assertEqual(free_neighbours(lines + Rule.of("**/")), [0, 1, 2, 3])
        with self.assertRaises(TooLarge):
            free_neighbours(Lines.of("**/", "!**/") + lines)
        # Many states, but not too many.
        self.assertEqual(free_neighbours(MANY_STATES[0]), [0, 1, 2, 3])
