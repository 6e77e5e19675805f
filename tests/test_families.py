"""ignorelines/families.py: [7]."""

from random import Random
from unittest import TestCase

import reference
from ignorelines.errors import InvalidList, TooLarge
from ignorelines.families import (
    Family, breaches, faithful_sets, family, greatest_unfaithful, least_sets, rescues,
)
from ignorelines.lists import Lines
from ignorelines.rules import Rule
from samples import NOT_LINES, NOT_PATHS, PATTERNS, SMALL, TOO_LARGE_LISTS, some_lines

# Lists with rules that occur twice, and rules of which one is needed only beside another one.
SPECIAL = [
    Lines.of("a", "a"), Lines.of("a", "b", "a"), Lines.of("a", "!a"), Lines.of("!a", "a"), Lines.of("!a", "!b"),
    Lines.of("a", "!a", "b"), Lines.of("a", "!a", "a"), Lines.of("a*", "!ab", "ab"), Lines.of("**", "!a/", "a/b"),
    Lines.of("a/", "!a/b", "a/**"), Lines.of("*", "!*/"), Lines.of("b/", "!b/c", "b/c"), Lines.of("!a", "a/", "!a/b"),
    Lines.of("a/*", "!a/b", "!a/"), Lines.of("a"), Lines.of("!a"), Lines.of("a", "!a/", "!a"),
]


def functions():
    """All functions and methods of the module that take a list."""
    return [
        faithful_sets, least_sets, greatest_unfaithful, breaches, rescues, family, Family([], []).is_correct,
        Family([(0,)], ["a"]).is_correct, Family([], ["//"]).is_correct,
    ]


def many_lists():
    return [*SPECIAL, *some_lines(11, 130, (2, 3), SMALL), *some_lines(12, 110, (2, 3), PATTERNS)]


class TestExamples(TestCase):
    def test_example_of_the_interface(self):
        lines = Lines.of("b/", "!b/c", "b/c")
        told = [faithful_sets(lines), least_sets(lines)]
        self.assertEqual(told, [[(0,), (0, 1), (0, 2), (0, 1, 2)], [(0,)]])

    def test_a_rule_that_occurs_twice(self):
        lines = Lines.of("a", "b", "a")
        self.assertEqual(faithful_sets(lines), [(0, 1), (1, 2), (0, 1, 2)])
        self.assertEqual(least_sets(lines), [(0, 1), (1, 2)])
        self.assertEqual(greatest_unfaithful(lines), [(1,), (0, 2)])
        self.assertEqual(breaches(lines), [((0, 1), (0,)), ((0, 1), (1,)), ((1, 2), (1,)), ((1, 2), (2,)), ((0, 1, 2), (0, 2))])
        self.assertEqual(rescues(lines), [])

    def test_rules_that_are_needless_together_but_not_alone(self):
        lines = Lines.of("a", "!a")
        self.assertEqual(faithful_sets(lines), [(), (1,), (0, 1)])
        self.assertEqual(least_sets(lines), [()])
        self.assertEqual(greatest_unfaithful(lines), [(0,)])
        self.assertEqual(breaches(lines), [((0, 1), (0,))])
        self.assertEqual(rescues(lines), [((0,), ())])

    def test_a_list_that_ignores_nothing(self):
        lines = Lines.of("!a", "!b")
        self.assertEqual(faithful_sets(lines), [(), (0,), (1,), (0, 1)])
        self.assertEqual([greatest_unfaithful(lines), breaches(lines), rescues(lines)], [[], [], []])
        self.assertEqual(family(lines), Family([(), (0,), (1,), (0, 1)], []))

    def test_a_list_of_one_rule(self):
        lines = Lines.of("a")
        self.assertEqual([faithful_sets(lines), least_sets(lines), greatest_unfaithful(lines)], [[(0,)], [(0,)], [()]])
        self.assertEqual([breaches(lines), rescues(lines)], [[((0,), ())], []])

    def test_pairs_are_ordered_by_the_first_set_then_the_second_one(self):
        lines = Lines.of("a", "b", "c")
        expected = [((0, 1, 2), (0, 1)), ((0, 1, 2), (0, 2)), ((0, 1, 2), (1, 2))]
        self.assertEqual(breaches(lines), expected)
        lines = Lines.of("a", "!a", "b", "!b")
        expected = [((0,), ()), ((2,), ()), ((0, 3), (3,)), ((1, 2), (1,)), ((0, 1, 2), (0, 1)), ((0, 2, 3), (2, 3))]
        self.assertEqual(rescues(lines), expected)

    def test_results_are_new(self):
        lines = Lines.of("a", "!a")
        for function in functions()[:5]:
            function(lines).append("x")
            self.assertNotIn("x", function(lines))
        result = family(lines)
        result.sets.clear()
        result.doubts.clear()
        self.assertTrue(family(lines).is_correct(lines))
        self.assertEqual(lines, Lines.of("a", "!a"))


class TestAgainstReference(TestCase):
    def test_lists_of_all_sorts(self):
        for lines in many_lists():
            told = reference.Sets(list(lines))
            self.assertEqual(faithful_sets(lines), told.faithful)
            self.assertEqual(least_sets(lines), told.least)
            self.assertEqual(greatest_unfaithful(lines), told.greatest)
            self.assertEqual(breaches(lines), told.breaches)
            self.assertEqual(rescues(lines), told.rescues)
            result = family(lines)
            self.assertIs(type(result), Family)
            self.assertEqual(result.sets, told.faithful)
            self.assertTrue(told.are_doubts(result.doubts, told.unfaithful))
            self.assertIs(result.is_correct(lines), True)

    def test_longer_lists(self):
        for lines in some_lines(13, 12, (4, 5), SMALL):
            told = reference.Sets(list(lines))
            self.assertEqual(faithful_sets(lines), told.faithful)
            self.assertEqual(greatest_unfaithful(lines), told.greatest)
            self.assertEqual(rescues(lines), told.rescues)
            self.assertTrue(family(lines).is_correct(lines))

    def test_lists_of_six_rules(self):
        lines = Lines.of("a", "b/", "!b/c", "c*", "!ca", "a")
        result = family(lines)
        self.assertEqual([len(result.sets), result.sets[0]], [6, (0, 1, 3, 4)])
        self.assertTrue(result.is_correct(lines))


class TestChangedResults(TestCase):
    def test_other_sets(self):
        for lines in some_lines(14, 60, (2, 3), SMALL) + SPECIAL:
            result = family(lines)
            sets, doubts = result.fields
            unfaithful = [chosen for chosen in reference.all_sets(len(lines)) if chosen not in sets]
            wrong = [sets[:k] + sets[k + 1:] for k in range(len(sets))]
            wrong += [sets + [chosen] for chosen in unfaithful]
            wrong += [sets + sets[:1], [], unfaithful, sets + [(9,)], sets + [(0, 0)], sets + [(-1,)]]
            if len(sets) > 1:
                wrong.append(sets[::-1])
            for changed in wrong:
                self.assertIs(Family(changed, doubts).is_correct(lines), False, changed)

    def test_other_doubts(self):
        random = Random(15)
        paths = list(reference.short_paths(4, "ab"))
        for lines in some_lines(16, 60, (2, 3), SMALL) + SPECIAL:
            told = reference.Sets(list(lines))
            doubts = family(lines).doubts
            tried = [doubts[:k] + doubts[k + 1:] for k in range(len(doubts))]
            tried += [random.sample(paths, random.randrange(6)) for _ in range(6)] + [[], paths, doubts + ["b/a"], doubts * 2]
            for changed in tried:
                expected = told.are_doubts(changed, told.unfaithful)
                self.assertIs(Family(told.faithful, changed).is_correct(lines), expected)

    def test_doubts_that_are_no_paths(self):
        lines = Lines.of("a", "!a")
        sets, doubts = family(lines).fields
        for value in NOT_PATHS:
            self.assertIs(Family(sets, doubts + [value]).is_correct(lines), False, value)
            self.assertIs(Family(sets, [value] + doubts).is_correct(lines), False, value)
        lines = Lines.of("!a")
        self.assertIs(Family([(), (0,)], ["//"]).is_correct(lines), False)
        self.assertIs(Family([(), (0,)], ["a"]).is_correct(lines), True)

    def test_current_fields_count(self):
        lines = Lines.of("a", "!a")
        result = family(lines)
        result.sets.pop()
        self.assertIs(result.is_correct(lines), False)
        result.sets.append((0, 1))
        self.assertIs(result.is_correct(lines), True)
        result.doubts = ["b"]
        self.assertIs(result.is_correct(lines), False)
        result.doubts.append("c/a/")
        self.assertIs(result.is_correct(lines), True)

    def test_the_result_of_another_list(self):
        self.assertIs(family(Lines.of("a", "b")).is_correct(Lines.of("a", "!b")), False)
        self.assertIs(family(Lines.of("a", "a", "a")).is_correct(Lines.of("a", "a")), False)


class TestErrors(TestCase):
    def test_no_list(self):
        for function in functions():
            for value in NOT_LINES:
                with self.assertRaises(InvalidList, msg=repr(value)):
                    function(value)

    def test_too_large(self):
        for function in functions():
            for lines in TOO_LARGE_LISTS:
                with self.assertRaises(TooLarge):
                    function(lines)

    def test_too_large_depends_on_the_whole_list(self):
        # The whole list ignores all directories, so that there is one state for each set.
        for text in ("**/", "/**"):
            self.assertEqual(least_sets(TOO_LARGE_LISTS[0] + Rule.of(text)), [(4,)])
        # The set of the rules before the last one is too large in itself, and makes no difference.
        lines = TOO_LARGE_LISTS[0] + Rule.of("/*/")
        self.assertEqual(faithful_sets(lines)[0], (4,))
        for text in ("a", "/a/", "c/a/a/a"):
            with self.assertRaises(TooLarge):
                faithful_sets(TOO_LARGE_LISTS[0] + Rule.of(text))
