"""ignorelines/lists.py: [1], [5], [7] (the order of sets), [10], [11]."""

from itertools import chain, combinations
from types import GeneratorType
from unittest import TestCase

import reference
from ignorelines.errors import InvalidIndex, InvalidList, InvalidPath, InvalidRule
from ignorelines.lists import Lines, verdict
from ignorelines.rules import Rule
from samples import NOT_LINES, NOT_PATHS, PATTERNS, some_lines

A, B, C = Rule("a"), Rule.of("!b"), Rule.of("/c/")


class TestMaking(TestCase):
    def test_list_and_tuple(self):
        for rules in ([A], [A, B], [A] * 6, [A, B, C, A, B, C]):
            for lines in (Lines(rules), Lines(tuple(rules))):
                self.assertEqual(len(lines), len(rules))
                self.assertEqual([lines[k] for k in range(len(rules))], rules)

    def test_no_list(self):
        values = [
            [], (), [A] * 7, (A,) * 7, [A, "a"], ["a"], [None], [A, None], [[A]], [Lines([A])], Lines([A]), A, "a", "", None,
            True, 0, 3, {0: A}, {"a"}, iter([A]), (rule for rule in [A]), range(2), b"ab", object(), [True], [A, Rule],
        ]
        for value in values:
            with self.assertRaises(InvalidList, msg=repr(value)):
                Lines(value)

    def test_the_list_is_neither_kept_nor_changed(self):
        rules = [A, B]
        lines = Lines(rules)
        rules[0] = C
        rules.append(A)
        self.assertEqual(lines, Lines([A, B]))
        self.assertEqual(rules, [C, B, A])

    def test_of_texts(self):
        self.assertEqual(Lines.of("a"), Lines([A]))
        self.assertEqual(Lines.of("a", "!b", "/c/"), Lines([A, B, C]))
        self.assertEqual(len(Lines.of("a", "a", "a", "a", "a", "a")), 6)

    def test_of_no_texts(self):
        for texts in ((), ("a",) * 7, ("",) * 7, (None,) * 8):
            with self.assertRaises(InvalidList):
                Lines.of(*texts)
        for texts in (("",), ("a", "//"), (None,), ("a", A), (["a"],), ("a", True), (["a", "b"],), ("a\n",), (b"a",)):
            with self.assertRaises(InvalidRule):
                Lines.of(*texts)


class TestReading(TestCase):
    def test_index(self):
        lines = Lines([A, B, C])
        self.assertEqual([lines[0], lines[1], lines[2]], [A, B, C])

    def test_no_index(self):
        lines = Lines([A, B, C])
        for value in (-1, 3, 10 ** 20, -(10 ** 20), True, False, None, "0", "a", [], (0,), slice(0, 1), b"0", {}, A, object()):
            with self.assertRaises(InvalidIndex, msg=repr(value)):
                lines[value]

    def test_equal(self):
        self.assertTrue(Lines([A, B]) == Lines((A, B)))
        self.assertFalse(Lines([A, B]) != Lines.of("a", "!b"))
        for other in (Lines([B, A]), Lines([A]), Lines([A, B, B]), Lines([A, C]), [A, B], (A, B), A, None, "a", object()):
            self.assertFalse(Lines([A, B]) == other)
            self.assertTrue(Lines([A, B]) != other)

    def test_lists_that_agree_are_not_equal(self):
        self.assertNotEqual(Lines.of("a", "a"), Lines.of("a"))

    def test_subsets(self):
        for size in range(1, 7):
            indices = range(size)
            expected = list(chain(*[combinations(indices, many) for many in range(size + 1)]))
            self.assertEqual(list(Lines([A] * size).subsets()), expected)

    def test_subsets_are_generated(self):
        lines = Lines([A, B])
        first, second = lines.subsets(), lines.subsets()
        self.assertIsInstance(first, GeneratorType)
        self.assertEqual([next(first), next(first), next(second)], [(), (0,), ()])


class TestAdding(TestCase):
    def test_a_list(self):
        self.assertEqual(Lines([A, B]) + Lines([C]), Lines([A, B, C]))
        self.assertEqual(Lines([A] * 3) + Lines([B] * 3), Lines([A, A, A, B, B, B]))

    def test_a_rule(self):
        self.assertEqual(Lines([A, B]) + C, Lines([A, B, C]))

    def test_the_lists_are_not_changed(self):
        one, other = Lines([A]), Lines([B])
        both = one + other
        self.assertEqual([one, other, both], [Lines([A]), Lines([B]), Lines([A, B])])
        both += C
        self.assertEqual([one, other, both], [Lines([A]), Lines([B]), Lines([A, B, C])])

    def test_too_many(self):
        with self.assertRaises(InvalidList):
            Lines([A] * 6) + A
        with self.assertRaises(InvalidList):
            Lines([A] * 4) + Lines([B] * 3)

    def test_no_list(self):
        for value in (None, "a", [A], (A,), 1, True):
            with self.assertRaises(InvalidList):
                Lines([A]) + value


class TestVerdicts(TestCase):
    def test_example_of_the_interface(self):
        lines = Lines.of("a", "!a", "b/", "!b/c")
        told = ["a" in lines, "b/c" in lines, "b" in lines]
        self.assertEqual(told, [False, True, False])
        told = [verdict(lines, "b/c/a"), verdict(lines, "c/a"), verdict(lines, "c")]
        self.assertEqual(told, [("b/", 2), ("c/a", 1), ("c", None)])

    def test_the_last_rule_decides(self):
        lines = Lines.of("a*", "!ab", "ab/", "!/ab/")
        told = [verdict(lines, path) for path in ("a", "ab", "ab/", "c/ab/", "c/ab", "ab/a", "b")]
        expected = [("a", 0), ("ab", 1), ("ab/", 3), ("c/ab/", 2), ("c/ab", 1), ("ab/a", 0), ("b", None)]
        self.assertEqual(told, expected)
        self.assertEqual([path in lines for path in ("a", "ab", "ab/", "c/ab/", "c/ab")], [True, False, False, True, False])

    def test_nothing_in_an_ignored_directory_is_included_again(self):
        lines = Lines.of("b/", "!b/c", "!**/a")
        self.assertEqual([verdict(lines, path) for path in ("b/c", "b/c/a/", "b/a")], [("b/", 0)] * 3)
        self.assertIn("b/c/a", lines)
        self.assertEqual(verdict(lines, "a"), ("a", 2))

    def test_the_first_ignored_directory_is_the_reason(self):
        lines = Lines.of("c", "b", "!/b")
        self.assertEqual(verdict(lines, "b/a/b/c/a"), ("b/a/b/", 1))
        self.assertEqual(verdict(lines, "b/a/c"), ("b/a/c", 0))
        self.assertEqual(verdict(lines, "b/a"), ("b/a", None))
        self.assertEqual(verdict(lines, "b/"), ("b/", 2))

    def test_a_directory_is_not_on_the_way_to_itself(self):
        self.assertEqual(verdict(Lines.of("a/"), "a/"), ("a/", 0))
        self.assertEqual(verdict(Lines.of("a/"), "a"), ("a", None))

    def test_files_on_the_way_do_not_exist(self):
        lines = Lines.of("a", "!a/")
        self.assertEqual([verdict(lines, "a/b"), verdict(lines, "a")], [("a/b", None), ("a", 0)])

    def test_all_short_paths(self):
        paths = list(reference.short_paths(5, "ab"))
        for lines in some_lines(2, 150, (1, 2, 3, 4, 5, 6), PATTERNS):
            rules = list(lines)
            for path in paths:
                told = verdict(lines, path)
                self.assertEqual(told, reference.reason(rules, path))
                self.assertIsInstance(told, tuple)
                self.assertIs(path in lines, reference.ignored(rules, path))

    def test_long_path(self):
        lines = Lines.of("*", "!*/")
        path = "a/" * 5000 + "b"
        self.assertEqual(verdict(lines, path), (path, 0))
        self.assertEqual(verdict(lines, path + "/"), (path + "/", 1))

    def test_no_path(self):
        lines = Lines.of("a", "!**/", "b/")
        for value in NOT_PATHS:
            with self.assertRaises(InvalidPath, msg=repr(value)):
                verdict(lines, value)
            with self.assertRaises(InvalidPath, msg=repr(value)):
                value in lines

    def test_no_list(self):
        for value in NOT_LINES:
            with self.assertRaises(InvalidList, msg=repr(value)):
                verdict(value, "a")
            with self.assertRaises(InvalidList, msg=repr(value)):
                verdict(value, "//")
