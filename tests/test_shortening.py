"""ignorelines/shortening.py: [8]."""

from random import Random
from unittest import TestCase

import reference
from ignorelines.lists import Lines
from ignorelines.shortening import Shortest, shortest
from samples import NOT_PATHS, PATTERNS, SMALL, some_lines


def many_lists(seed, number):
    return some_lines(seed, number, (1, 2, 3, 4), SMALL) + some_lines(seed + 1, number, (1, 2, 3, 4), PATTERNS)


def smaller_sets(lines, found):
    return [chosen for chosen in reference.all_sets(len(lines)) if len(chosen) < len(found)]


class TestExamples(TestCase):
    def test_example_of_the_interface(self):
        told = [shortest(Lines.of("a", "b", "!b", "a")).found, shortest(Lines.of("!a")).found]
        self.assertEqual(told, [(0,), ()])

    def test_the_first_of_several(self):
        self.assertEqual(shortest(Lines.of("a", "a")).found, (0,))
        self.assertEqual(shortest(Lines.of("!a", "b", "a", "b")).found, (1, 2))
        self.assertEqual(shortest(Lines.of("*", "!a", "**", "!b", "!a")).found, (0, 1, 3))

    def test_nothing_can_be_left_out(self):
        self.assertEqual(shortest(Lines.of("a", "b", "c")).found, (0, 1, 2))
        self.assertEqual(shortest(Lines.of("*", "!*/", "a/", "!/a/")).found, (0, 1, 2, 3))

    def test_six_rules(self):
        lines = Lines.of("a", "b/", "!b/c", "c*", "!ca", "a")
        result = shortest(lines)
        self.assertEqual(result.found, (0, 1, 3, 4))
        self.assertTrue(result.is_correct(lines))

    def test_results_are_new(self):
        lines = Lines.of("a", "b")
        result = shortest(lines)
        result.doubts.clear()
        self.assertTrue(shortest(lines).is_correct(lines))
        self.assertEqual(lines, Lines.of("a", "b"))


class TestAgainstReference(TestCase):
    def test_lists_of_all_sorts(self):
        for lines in many_lists(21, 80):
            told = reference.Sets(list(lines))
            result = shortest(lines)
            self.assertIs(type(result), Shortest)
            self.assertEqual(result.found, told.faithful[0])
            self.assertIs(type(result.found), tuple)
            self.assertTrue(told.are_doubts(result.doubts, smaller_sets(lines, result.found)))
            self.assertIs(result.is_correct(lines), True)


class TestChangedResults(TestCase):
    def test_other_sets(self):
        paths = list(reference.short_paths(4, "ab"))
        for lines in many_lists(23, 25):
            found, doubts = shortest(lines).fields
            for chosen in [*reference.all_sets(len(lines)), (9,), (-1,), (0, 0), (1, 0)]:
                for changed in (doubts, doubts + paths):
                    self.assertIs(Shortest(chosen, changed).is_correct(lines), chosen == found)

    def test_other_doubts(self):
        random = Random(25)
        paths = list(reference.short_paths(4, "ab"))
        for lines in many_lists(26, 25):
            told = reference.Sets(list(lines))
            found, doubts = shortest(lines).fields
            smaller = smaller_sets(lines, found)
            tried = [doubts[:k] + doubts[k + 1:] for k in range(len(doubts))]
            tried += [random.sample(paths, random.randrange(6)) for _ in range(6)] + [[], paths, doubts + ["b/a"], doubts * 2]
            for changed in tried:
                self.assertIs(Shortest(found, changed).is_correct(lines), told.are_doubts(changed, smaller))

    def test_sets_of_the_same_size_need_no_doubt(self):
        # The faithful set (1,) is not the first one of its size, and (0,) is not faithful.
        lines = Lines.of("a", "b", "!a")
        self.assertIs(Shortest((1,), ["b"]).is_correct(lines), True)
        self.assertIs(Shortest((1,), []).is_correct(lines), False)
        self.assertIs(Shortest((1,), ["a"]).is_correct(lines), False)

    def test_doubts_that_are_no_paths(self):
        lines = Lines.of("a", "b")
        found, doubts = shortest(lines).fields
        for value in NOT_PATHS:
            self.assertIs(Shortest(found, doubts + [value]).is_correct(lines), False, value)
            self.assertIs(Shortest(found, [value] + doubts).is_correct(lines), False, value)
            self.assertIs(Shortest((), [value]).is_correct(Lines.of("!a")), False, value)

    def test_current_fields_count(self):
        lines = Lines.of("a", "b", "b")
        result = shortest(lines)
        result.found = (0, 2)
        self.assertIs(result.is_correct(lines), False)
        result.found = (0, 1)
        self.assertIs(result.is_correct(lines), True)
        result.doubts = ["a"]
        self.assertIs(result.is_correct(lines), False)
        result.doubts.append("b")
        self.assertIs(result.is_correct(lines), True)
