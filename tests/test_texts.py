"""ignorelines/texts.py: [11]."""

from itertools import product
from random import Random
from unittest import TestCase

from ignorelines.errors import InvalidList, InvalidRule, ParseError
from ignorelines.lists import Lines
from ignorelines.rules import Rule
from ignorelines.texts import lines_text, read_lines, rule_text
from samples import NOT_LINES, NOT_RULES, PATTERNS, some_lines

# Patterns at the edges of [3].
EDGES = ["abcabcabcabc", "a/b/c/.", "**/**/**/**", "a", "?", "*", "**", ".", "*?*?*?*?*?*?", "ab/ab/ab/abc"]

# What is not a line of a rule.
NOT_ROWS = [
    "", "!", "/", "//", "!/", "!//", "!!a", "/!a", "//a", "a//", "!/a//", "a!", " a", "a ", " ", "a b", "A", "d", "#a", "a\t",
    "a\r", "\r", "a\x0b", "a\x85", "a\u2028b", "\u0430", "\x00", "abcabcabcabca", "!/abcabcabcabca/", "a/b/c/./a",
    "**/**/**/**/*", "a**", "***", "**a/b", "a//b", "a/***/b", "a\\", "[a]", "/a/b/c/./a/",
]


def many_lists():
    return some_lines(41, 200, (1, 2, 3, 4, 5, 6), PATTERNS + EDGES)


def plain_text(rule):
    return "!" * rule.again + "/" * rule.anchored + rule.pattern + "/" * rule.directories + "\n"


class TestWriting(TestCase):
    def test_example_of_the_document(self):
        rule = Rule("a/**/b*", again=True, directories=True, anchored=True)
        self.assertEqual(rule_text(rule), "!/a/**/b*/")

    def test_all_marks(self):
        expected = ["a/b", "/a/b", "a/b/", "/a/b/", "!a/b", "!/a/b", "!a/b/", "!/a/b/"]
        told = [
            rule_text(Rule("a/b", again=again, directories=directories, anchored=anchored))
            for again, directories, anchored in product((False, True), repeat=3)
        ]
        self.assertEqual(told, expected)

    def test_each_rule_is_read_again(self):
        for pattern in PATTERNS + EDGES:
            for again, directories, anchored in product((False, True), repeat=3):
                rule = Rule(pattern, again=again, directories=directories, anchored=anchored)
                self.assertEqual(Rule.of(rule_text(rule)), rule)

    def test_a_line_for_each_rule(self):
        self.assertEqual(lines_text(Lines.of("a")), "a\n")
        self.assertEqual(lines_text(Lines.of("!/a/**/b*/", "c")), "!/a/**/b*/\nc\n")
        self.assertEqual(lines_text(Lines.of("b", "a", "b")), "b\na\nb\n")

    def test_lists_of_all_sorts(self):
        for lines in many_lists():
            text = lines_text(lines)
            self.assertEqual(text, "".join(plain_text(rule) for rule in lines))
            self.assertEqual(read_lines(text), lines)

    def test_no_rule(self):
        for value in NOT_RULES:
            with self.assertRaises(InvalidRule, msg=repr(value)):
                rule_text(value)

    def test_no_list(self):
        for value in NOT_LINES:
            with self.assertRaises(InvalidList, msg=repr(value)):
                lines_text(value)


class TestReading(TestCase):
    def refused(self, text):
        with self.assertRaises(ParseError, msg=repr(text)) as told:
            read_lines(text)
        self.assertIs(type(told.exception.line), int)
        return told.exception.line

    def test_example_of_the_interface(self):
        lines = read_lines("!/a/**/b*/\nc\n")
        self.assertEqual([lines_text(lines) == "!/a/**/b*/\nc\n", lines[0].directories], [True, True])

    def test_a_list(self):
        lines = read_lines("a\n!/b/\n")
        self.assertIs(type(lines), Lines)
        self.assertEqual(lines, Lines.of("a", "!/b/"))
        self.assertEqual(len(read_lines("a\n" * 6)), 6)
        self.assertEqual(read_lines("abcabcabcabc\n/a/b/c/./\n"), Lines.of("abcabcabcabc", "/a/b/c/./"))

    def test_each_result_is_new(self):
        self.assertIsNot(read_lines("a\n"), read_lines("a\n"))

    def test_one_line_changed(self):
        random = Random(42)
        for lines in many_lists():
            rows = lines_text(lines).split("\n")[:-1]
            at = random.randrange(len(rows))
            rows[at] = random.choice([row for row in NOT_ROWS if row != ""])
            self.assertEqual(self.refused("".join(row + "\n" for row in rows)), at)

    def test_each_wrong_line(self):
        for row in NOT_ROWS:
            self.assertEqual(self.refused(row + "\n"), 0)
            self.assertEqual(self.refused("a\n" + row + "\nb\n"), 1)
            self.assertEqual(self.refused("a\n!b/\n/**/\n" + row + "\n"), 3)

    def test_the_first_of_several_wrong_lines(self):
        self.assertEqual(self.refused("a\nd\nb\n\n"), 1)
        self.assertEqual(self.refused("\nd\n"), 0)
        self.assertEqual(self.refused("a\nb\n\nd\na**\n"), 2)

    def test_empty_lines(self):
        self.assertEqual(self.refused("\n"), 0)
        self.assertEqual(self.refused("\n\n"), 0)
        self.assertEqual(self.refused("a\n\n"), 1)
        self.assertEqual(self.refused("a\n\nb\n"), 1)
        self.assertEqual(self.refused("\na\n"), 0)

    def test_no_lines(self):
        for text in ("", "a", "d", "a b", "!", "\r", "abcabcabcabca"):
            self.assertEqual(self.refused(text), 0)

    def test_without_the_last_line_feed(self):
        for lines in many_lists():
            self.assertEqual(self.refused(lines_text(lines)[:-1]), len(lines) - 1)

    def test_characters_behind_the_last_line_feed(self):
        for rest in ("a", "!b/", "d", " ", "!", "\r", "\x00", "a**", "/"):
            self.assertEqual(self.refused("a\n" + rest), 1)
            self.assertEqual(self.refused("a\nb\n!c\n" + rest), 3)

    def test_too_many_lines(self):
        for number in (7, 8, 50):
            self.assertEqual(self.refused("a\n" * number), 0)

    def test_a_wrong_line_comes_before_everything_else(self):
        self.assertEqual(self.refused("a\n" * 6 + "d\n"), 6)
        self.assertEqual(self.refused("a\n" * 9 + "\n" + "a\n"), 9)
        self.assertEqual(self.refused("a\nd\nb"), 1)
        self.assertEqual(self.refused("a\n" * 8 + "d\nb"), 8)

    def test_characters_behind_the_last_line_feed_come_before_too_many_lines(self):
        self.assertEqual(self.refused("a\n" * 7 + "a"), 7)
        self.assertEqual(self.refused("a\n" * 6 + "d"), 6)
        self.assertEqual(self.refused("a\n" * 20 + "!"), 20)

    def test_other_line_ends(self):
        self.assertEqual(self.refused("a\r\nb\r\n"), 0)
        self.assertEqual(self.refused("a\rb\r"), 0)
        self.assertEqual(self.refused("a\nb\x0bc\n"), 1)
        self.assertEqual(self.refused("a\nb\u2028"), 1)

    def test_no_string(self):
        for value in (
            None, True, False, 0, 1, b"", b"a\n", [], ["a"], ["a\n"], (), ("a\n",), {}, {"a\n"}, object(), Rule("a"),
            Lines.of("a"), str, 10 ** 30,
        ):
            self.assertEqual(self.refused(value), 0)
