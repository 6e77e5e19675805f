"""ignorelines/deciding.py: [6]."""

from random import Random
from unittest import TestCase

import reference
from ignorelines.deciding import Agree, Differ, compare, first_difference, first_uncovered
from ignorelines.errors import InvalidList, TooLarge
from ignorelines.lists import Lines
from ignorelines.rules import Rule
from samples import (
    MANY_SITUATIONS, MANY_STATES, NOT_LINES, PATTERNS, SMALL, TOO_LARGE_LISTS, TOO_LARGE_PAIRS, some_pairs,
)

PATHS = list(reference.short_paths(5, "ab"))
PATHS_OF_ALL_SIGNS = list(reference.short_paths(4, ".abc"))
GOOD = Lines.of("a")


def functions():
    """All functions and methods of the module that take two lists."""
    return [
        compare, first_difference, first_uncovered, Agree([]).is_correct, Agree([(((0,),), ((0,),))]).is_correct,
        Differ("a").is_correct, Differ("//").is_correct,
    ]


class TestExamples(TestCase):
    def test_example_of_the_interface(self):
        one, other = Lines.of("a", "b/", "!b/c"), Lines.of("b/", "a")
        self.assertEqual(compare(one, other).NAME, compare(other, one).NAME)
        self.assertEqual(compare(one, Lines.of("/a", "b/")).fields, ["./a"])
        self.assertEqual(first_uncovered(Lines.of("a/"), other), "a")

    def test_the_only_state(self):
        state = (((0,), (0,), (0,)), ((0,), (0,)))
        result = compare(Lines.of("a", "b/", "!b/c"), Lines.of("b/", "a"))
        self.assertEqual(sorted(result.fields[0]), [state])

    def test_states(self):
        result = compare(Lines.of("/a/b/c"), Lines.of("/a/b/c", "!/c"))
        expected = [
            (((0,),), ((0,), (0,))), (((1,),), ((1,), ())), (((2,),), ((2,), ())), (((),), ((), (1,))),
            (((),), ((), ())),
        ]
        self.assertEqual(sorted(result.fields[0]), sorted(expected))

    def test_stages_with_any_number_of_names(self):
        result = compare(Lines.of("!/**/a/**"), Lines.of("!a/**"))
        expected = [
            (((0, 1),), ((0,),)), (((1,),), ((0,),)), (((1, 2, 3),), ((0, 1, 2),)), (((1, 3),), ((0, 2),)),
        ]
        self.assertEqual(sorted(result.fields[0]), sorted(expected))

    def test_first_paths(self):
        for one, other, path in (
            (("a",), ("a/",), "a"),
            (("a/",), ("/a",), "a"),
            (("a/",), ("a/", "/a/"), None),
            (("a/**",), ("a",), None),
            (("a/*",), ("a/**", "!a"), "a/a"),
            (("a/*",), ("a/?",), "a/.."),
            (("*",), ("**",), None),
            (("*/a",), ("a",), "a"),
            (("a/b", "!a"), ("a/b",), None),
            (("/**/a",), ("a",), None),
            (("*", "!a"), ("*", "!a/"), "a"),
            (("*", "!*/"), ("*",), "./"),
            (("a*b",), ("a*b", "!ab"), "ab"),
            (("abc",), ("abc", "!b/**/abc/"), "b/abc/"),
            (("c/b/a",), ("/c/b/a",), "./c/b/a"),
            (("!a",), ("b", "!b"), None),
            (("????????????",), ("???????????*",), "..........."),
        ):
            first, second = Lines.of(*one), Lines.of(*other)
            for left, right in ((first, second), (second, first)):
                result = compare(left, right)
                self.assertEqual(first_difference(left, right), path)
                self.assertIsInstance(result, Agree if path is None else Differ)
                self.assertTrue(result.is_correct(left, right))
                if path is not None:
                    self.assertEqual(result.fields, [path])

    def test_a_slash_stands_between_a_dot_and_a_letter(self):
        self.assertEqual(first_difference(Lines.of("./", "/.a"), Lines.of("/**/b")), "b")
        self.assertEqual(first_difference(Lines.of("./", ".a", ".."), Lines.of("!c")), "..")
        self.assertEqual(first_difference(Lines.of("./", ".a"), Lines.of("!c")), "./")
        self.assertEqual(first_difference(Lines.of("a/", "ab"), Lines.of("!c")), "a/")

    def test_first_uncovered_takes_only_one_side(self):
        one, other = Lines.of("a"), Lines.of("abc/")
        self.assertEqual([first_uncovered(one, other), first_uncovered(other, one)], ["abc/", "a"])
        one, other = Lines.of("a", "b"), Lines.of("b")
        self.assertEqual([first_uncovered(one, other), first_uncovered(other, one)], [None, "a"])
        # What is in an ignored directory is covered.
        self.assertIsNone(first_uncovered(Lines.of("a/"), Lines.of("a/", "a/b", "/a/c/**")))

    def test_arguments_are_not_changed(self):
        one, other = Lines.of("a", "!b/"), Lines.of("!b/", "a*")
        for function in functions():
            function(one, other)
        self.assertEqual([one, other], [Lines.of("a", "!b/"), Lines.of("!b/", "a*")])

    def test_results_are_new(self):
        one = Lines.of("a", "!b/")
        first, second = compare(one, one), compare(one, one)
        first.states.clear()
        self.assertTrue(second.is_correct(one, one))
        self.assertEqual(compare(one, one), second)


class TestAgainstReference(TestCase):
    def check(self, one, other):
        rules, others = list(one), list(other)
        path = reference.first_difference(rules, others)
        self.assertEqual(first_difference(one, other), path)
        self.assertEqual(first_uncovered(one, other), reference.first_uncovered(rules, others))
        result = compare(one, other)
        self.assertIs(result.is_correct(one, other), True)
        if path is None:
            self.assertIs(type(result), Agree)
            self.assertIs(type(result.states), list)
            self.assertTrue(reference.are_states_of_agreement(result.states, rules, others))
        else:
            self.assertEqual(result, Differ(path))
        return path

    def test_changed_and_unrelated_lists(self):
        for patterns, number in ((PATTERNS, 260), (SMALL, 260)):
            told = [self.check(one, other) for one, other in some_pairs(3, number, patterns)]
            self.assertGreater(told.count(None), number // 8)
            self.assertLess(told.count(None), number - number // 8)

    def test_all_short_paths(self):
        for one, other in some_pairs(4, 150, PATTERNS):
            paths = [path for path in PATHS if (path in one) != (path in other)]
            told = first_difference(one, other)
            if paths and not (set(told) & set(".c")):
                self.assertEqual(told, paths[0])
            if told is None:
                self.assertEqual(paths, [])

    def test_all_short_paths_of_all_signs(self):
        for one, other in some_pairs(5, 60, PATTERNS):
            told = first_difference(one, other)
            for path in PATHS_OF_ALL_SIGNS:
                if told is not None and reference.order(path) >= reference.order(told):
                    break
                self.assertEqual(path in one, path in other)
            uncovered = first_uncovered(one, other)
            for path in PATHS_OF_ALL_SIGNS:
                if uncovered is not None and reference.order(path) >= reference.order(uncovered):
                    break
                self.assertFalse(path in other and path not in one)


class TestChangedResults(TestCase):
    def agreeing(self):
        found = [pair for pair in some_pairs(6, 120, SMALL) if first_difference(*pair) is None]
        return [*found, (Lines.of("/a/b/c"), Lines.of("/a/b/c", "!/c"))]

    def test_each_state_is_needed(self):
        for one, other in self.agreeing():
            states = compare(one, other).states
            for k in range(len(states)):
                self.assertIs(Agree(states[:k] + states[k + 1:]).is_correct(one, other), False)

    def test_order_and_repetition_do_not_matter(self):
        random = Random(7)
        for one, other in self.agreeing():
            states = compare(one, other).states
            random.shuffle(states)
            self.assertIs(Agree(states).is_correct(one, other), True)
            self.assertIs(Agree(states + states[:2]).is_correct(one, other), True)

    def test_current_states_count(self):
        one = Lines.of("/a/b")
        result = compare(one, one)
        state = result.states.pop()
        self.assertIs(result.is_correct(one, one), False)
        result.states.append(state)
        self.assertIs(result.is_correct(one, one), True)

    def test_no_states(self):
        self.assertIs(Agree([]).is_correct(GOOD, GOOD), False)

    def test_states_of_lists_that_differ(self):
        for one, other in some_pairs(8, 120, SMALL):
            states = reference.states(list(one), list(other))
            expected = reference.first_difference(list(one), list(other)) is None
            self.assertIs(Agree(states).is_correct(one, other), expected)

    def test_other_paths(self):
        for one, other in some_pairs(9, 60, SMALL):
            path = first_difference(one, other)
            for changed in ("", "/", "a", "a/", "b/a", "./a", (path or "a") + "/", (path or "a") + "a"):
                self.assertIs(Differ(changed).is_correct(one, other), changed == path)

    def test_a_later_difference(self):
        one, other = Lines.of("a"), Lines.of("b")
        for path in PATHS:
            self.assertIs(Differ(path).is_correct(one, other), path == "a")

    def test_current_path_counts(self):
        result = compare(Lines.of("a"), Lines.of("b"))
        result.path = "b"
        self.assertIs(result.is_correct(Lines.of("a"), Lines.of("b")), False)
        result.path = "a"
        self.assertIs(result.is_correct(Lines.of("a"), Lines.of("b")), True)


class TestErrors(TestCase):
    def test_no_lists(self):
        for function in functions():
            for value in NOT_LINES:
                for pair in ((value, GOOD), (GOOD, value), (value, value), (value, TOO_LARGE_LISTS[0])):
                    with self.assertRaises(InvalidList, msg=repr(pair)):
                        function(*pair)
            with self.assertRaises(InvalidList):
                function(TOO_LARGE_LISTS[1], None)

    def test_too_large(self):
        for function in functions():
            for one, other in TOO_LARGE_PAIRS:
                for pair in ((one, other), (other, one)):
                    with self.assertRaises(TooLarge):
                        function(*pair)

    def test_1000_states_are_not_too_many(self):
        result = compare(*MANY_STATES)
        self.assertIs(type(result), Agree)
        self.assertEqual(len(result.states), 1000)
        self.assertTrue(result.is_correct(*MANY_STATES))

    def test_2000_situations_are_not_too_many(self):
        self.assertEqual(first_difference(*MANY_SITUATIONS), "bc.")
        self.assertEqual(first_uncovered(*MANY_SITUATIONS), "bc.")
        self.assertTrue(Differ("bc.").is_correct(*MANY_SITUATIONS))

    def test_only_states_after_directories_that_neither_ignores_count(self):
        many = TOO_LARGE_LISTS[0]
        few = many + Rule.of("**/")
        self.assertEqual(len(compare(few, few).states), 1)
        self.assertEqual(compare(few, many).fields, ["./"])
        self.assertEqual(compare(many, few).fields, ["./"])

    def test_reference_counts_the_same(self):
        for one, other in some_pairs(10, 60, PATTERNS):
            if first_difference(one, other) is None:
                self.assertEqual(len(compare(one, other).states), len(reference.states(list(one), list(other))))
