"""ignorelines/rules.py: [2], [3], [4], [11]."""

from itertools import product
from unittest import TestCase

import reference
from ignorelines.errors import InvalidPath, InvalidRule
from ignorelines.rules import Rule
from samples import NOT_PATHS, PATTERNS, some_lines

EDGES = [
    "a", "**", "*", "?", ".", "..", "a/b/c/.", "**/**/**/**", "abcabcabcabc", "abc/abc/abca", "*a*a*a*a*a*a",
    "*?*?*?*?*?*?", "a/**", "**/a", "*/*", "?*?", "????????????",
]

NOT_PATTERNS = [
    "", "/", "/a", "a/", "a//b", "//", "a/b/", "a/b/c/a/b", "**/**/**/**/**", "abcabcabcabca", "a/b/c/./././.",
    "****", "***", "a**", "**a", "a**b", "a/***", "**/b**", "d", "A", "a b", " a", "a ", "a\n", "!a", "a!", "[a]", "a\\",
    "a-b", "\u0430", "a/\n", "a\x00", "a,b",
    None, True, False, 0, 1, b"a", [], ["a"], ("a",), {}, object(), {"a"}, Rule("a"), Rule,
]

NOT_MARKS = [None, 0, 1, -1, "", "a", "True", [], [True], (), (True,), {}, object(), b"", bool, {True}]


class TestMaking(TestCase):
    def test_marks_and_pattern(self):
        for pattern in EDGES + PATTERNS:
            for again, directories, anchored in product((False, True), repeat=3):
                rule = Rule(pattern, again=again, directories=directories, anchored=anchored)
                self.assertEqual(rule.pattern, pattern)
                self.assertIs(rule.again, again)
                self.assertIs(rule.directories, directories)
                self.assertIs(rule.anchored, anchored)

    def test_marks_are_left_out(self):
        rule = Rule("a/b")
        self.assertEqual([rule.again, rule.directories, rule.anchored], [False, False, False])

    def test_marks_are_passed_by_name(self):
        with self.assertRaises(TypeError):
            Rule("a", True)

    def test_a_rule_never_changes(self):
        rule = Rule("a")
        for name in ("pattern", "again", "directories", "anchored"):
            with self.assertRaises(AttributeError):
                setattr(rule, name, True)
        self.assertEqual(rule, Rule("a"))

    def test_no_pattern(self):
        for value in NOT_PATTERNS:
            with self.assertRaises(InvalidRule, msg=repr(value)):
                Rule(value)
            with self.assertRaises(InvalidRule, msg=repr(value)):
                Rule(value, again=1, directories=None, anchored="a")

    def test_no_mark(self):
        for value in NOT_MARKS:
            for name in ("again", "directories", "anchored"):
                with self.assertRaises(InvalidRule, msg=repr(value)):
                    Rule("a", **{name: value})

    def test_a_part_has_12_characters_at_most_in_all(self):
        self.assertEqual(len(Rule("ab/ab/ab/abc").pattern), 12)
        with self.assertRaises(InvalidRule):
            Rule("ab/ab/ab/abca")


class TestEqual(TestCase):
    def test_all_four_properties_count(self):
        made = [
            (pattern, again, directories, anchored)
            for pattern in ("a", "b", "a/b")
            for again, directories, anchored in product((False, True), repeat=3)
        ]
        for one in made:
            for other in made:
                first = Rule(one[0], again=one[1], directories=one[2], anchored=one[3])
                second = Rule(other[0], again=other[1], directories=other[2], anchored=other[3])
                self.assertIs(first == second, one == other)
                self.assertIs(first != second, one != other)

    def test_rules_with_the_same_paths_are_not_equal(self):
        self.assertNotEqual(Rule("**"), Rule("*"))

    def test_other_values(self):
        for value in ("a", None, 0, [], ("a", False, False, False), object()):
            self.assertFalse(Rule("a") == value)
            self.assertTrue(Rule("a") != value)


class TestTexts(TestCase):
    def test_all_marks(self):
        for pattern in EDGES + PATTERNS:
            for again, directories, anchored in product((False, True), repeat=3):
                text = "!" * again + "/" * anchored + pattern + "/" * directories
                expected = Rule(pattern, again=again, directories=directories, anchored=anchored)
                self.assertEqual(Rule.of(text), expected, text)

    def test_example_of_the_document(self):
        self.assertEqual(Rule.of("!/a/**/b*/"), Rule("a/**/b*", again=True, directories=True, anchored=True))

    def test_longest_text(self):
        self.assertEqual(Rule.of("!/abcabcabcabc/").pattern, "abcabcabcabc")

    def test_no_rule(self):
        texts = [
            "", "!", "/", "//", "!/", "!//", "///", "!!a", "/!a", "a!", "//a", "a//", "/a//", "!//a", "! a", "!a ", "a\n",
            "!/a\n", "/abcabcabcabca/", "!a/b/c/a/b", "/a/b/c/./.", "***", "!a**", "!/d/", "A", "a//b", "/!", "\n",
        ]
        for text in texts:
            with self.assertRaises(InvalidRule, msg=repr(text)):
                Rule.of(text)

    def test_no_text(self):
        for value in (None, True, False, 0, 1, b"a", [], ["a"], ("a",), {}, object(), Rule("a"), {"a"}):
            with self.assertRaises(InvalidRule, msg=repr(value)):
                Rule.of(value)


class TestMatching(TestCase):
    def check(self, text, matched, not_matched):
        rule = Rule.of(text)
        for path in matched:
            self.assertIs(rule.matches(path), True, (text, path))
        for path in not_matched:
            self.assertIs(rule.matches(path), False, (text, path))

    def test_example_of_the_interface(self):
        rule = Rule("a/**/b*", directories=True)
        told = [rule.matches("c/a/b.c/"), rule.matches("a/c/c/b"), rule.matches("b/")]
        self.assertEqual([*told, rule == Rule.of("a/**/b*/"), Rule.of("!/a").again], [True, False, False, True, True])

    def test_plain_part(self):
        self.check("a", ["a", "a/", "b/a", "b/c/a/", "./a"], ["b", "aa", "a/b", "a/b/", ".a", "a."])
        self.check(".", [".", "a/.", "./"], ["a", "b/", "..", "./a"])

    def test_one_sign(self):
        self.check("?", ["a", ".", "b/c/", "ab/c"], ["ab", "a/bc", ".."])
        self.check("a?c", ["abc", "a.c", "acc/", "b/aac"], ["ac", "abbc", "a/c", "abcc"])

    def test_any_number_of_signs(self):
        self.check("*", ["a", "a/b", "abc.abc/", "."], [])
        self.check("a*", ["a", "ab", "a.b.c", "b/a/", "a/a"], ["ba", "a/b", ".a"])
        self.check("*a", ["a", "ba", "..a", "b/ca/"], ["ab", "a/b"])
        self.check("*a*", ["a", "bab", "b/cac"], ["b", "a/b"])
        self.check("a*b*c", ["abc", "a.b.c", "abbcbc", "b/abc"], ["ac", "abcb", "a/b/c", "acb"])
        self.check("?*?", ["ab", "abc", "a/.."], ["a", "ab/c"])

    def test_any_number_of_names(self):
        self.check("**", ["a", "a/b", "a/b/c/"], [])
        self.check("/**", ["a", "a/b", "a/b/c/"], [])
        self.check("a/**", ["a", "a/b", "c/a/b/b/", "a/a"], ["b", "aa/b", "b/c"])
        self.check("/a/**", ["a", "a/b", "a/b/c"], ["b/a", "c/a/b"])
        self.check("**/a", ["a", "b/a", "b/b/a/"], ["a/b", "b"])
        self.check("/**/a", ["a", "b/a", "b/b/a/"], ["a/b", "b"])
        self.check("/a/**/b", ["a/b", "a/c/b", "a/c/c/b/"], ["a", "b", "c/a/b", "a/b/c"])
        self.check("/**/a/**", ["a", "a/b", "b/a/b", "b/b/a"], ["b", "b/c", "aa"])

    def test_anchored(self):
        self.check("/a", ["a", "a/"], ["b/a", "a/a", "a/b"])
        self.check("/a/b", ["a/b", "a/b/"], ["c/a/b", "a", "b", "a/b/c"])
        self.check("/*", ["a", "abc/"], ["a/b", "a/b/"])

    def test_not_anchored(self):
        self.check("a/b", ["a/b", "c/a/b", "c/c/a/b/"], ["a", "b", "a/b/c", "a/c/b"])
        self.check("a/a", ["a/a", "a/a/a", "b/a/a/"], ["a", "a/b/a", "a/a/b"])

    def test_directories_only(self):
        self.check("a/", ["a/", "b/a/"], ["a", "b/a", "a/b", "a/b/"])
        self.check("/a/", ["a/"], ["a", "b/a/", "a/b/"])
        self.check("**/", ["a/", "a/b/"], ["a", "a/b"])

    def test_to_include_again_does_not_matter(self):
        self.check("!/a/", ["a/"], ["a", "b/a/"])
        self.check("!a", ["a", "b/a"], ["b"])

    def test_long_paths(self):
        self.check("/a/**/b", ["a/" * 3000 + "b"], ["a/" * 3000 + "c", "a/" * 3000 + "b/c"])
        self.check("*a*a*a*a*a*", ["b" * 3000 + "aaaaa"], ["b" * 3000 + "aaaa" + "b" * 3000])

    def test_all_short_paths(self):
        paths = list(reference.short_paths(6, "ab"))
        for lines in some_lines(1, 120, (1,), PATTERNS):
            for path in paths:
                self.assertIs(lines[0].matches(path), reference.matches(lines[0], path), (lines[0].pattern, path))

    def test_all_short_paths_of_all_signs(self):
        paths = list(reference.short_paths(4, ".abc"))
        for pattern in PATTERNS:
            for text in (pattern, "/" + pattern, pattern + "/"):
                rule = Rule.of(text)
                for path in paths:
                    self.assertIs(rule.matches(path), reference.matches(rule, path), (text, path))

    def test_no_path(self):
        for text in ("a", "!/a/", "**", "b/"):
            for value in NOT_PATHS:
                with self.assertRaises(InvalidPath, msg=repr(value)):
                    Rule.of(text).matches(value)
