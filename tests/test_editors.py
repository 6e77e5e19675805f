"""ignorelines/editors.py: [13]."""

from random import Random
from types import GeneratorType
from unittest import TestCase

import reference
from ignorelines.editors import Editor
from ignorelines.errors import Changes, InvalidIndex, InvalidList, InvalidRule, NothingDone, TooLarge
from ignorelines.lists import Lines
from ignorelines.rules import Rule
from samples import (
    NOT_INDICES, NOT_LINES, NOT_RULES, PATTERNS, SMALL, TOO_LARGE_LISTS, TOO_LARGE_RULE, rule_from, some_lines,
)

A = Rule("a")
# After the second rule nothing is ignored; without it, all directories are.
MANY_STATES_UNLESS_LEFT_OUT = Lines.of("**/", "!**/") + TOO_LARGE_LISTS[0]


def some_step(random, rules, patterns):
    """The name and the arguments of a step that may be refused, and the rules after it."""
    many = len(rules)
    way = random.choice([name for name, possible in (
        ("leave_out", many > 1), ("exchange", many > 1), ("insert", many < 6),
    ) if possible])
    if way == "leave_out":
        at = random.randrange(many)
        return way, (at,), rules[:at] + rules[at + 1:]
    if way == "exchange":
        at = random.randrange(many - 1)
        return way, (at,), reference.exchanged(rules, at)
    at = random.randrange(many + 1)
    rule = random.choice(rules) if random.random() < 0.6 else rule_from(random, patterns)
    return way, (at, rule), rules[:at] + [rule] + rules[at:]


class Checked(TestCase):
    """Checks of an editor as a whole."""

    def holds(self, editor, rules, past):
        self.assertEqual(list(editor.lines), rules)
        self.assertIs(type(editor.lines), Lines)
        self.assertEqual(len(editor), len(rules))
        self.assertIs(type(editor.history), list)
        self.assertEqual([list(lines) for lines in editor.history], past)

    def refused(self, error, step, *arguments):
        with self.assertRaises(error, msg=repr(arguments)) as told:
            step(*arguments)
        self.assertIs(type(told.exception), error)
        return told.exception


class TestExamples(Checked):
    def test_example_of_the_interface(self):
        editor = Editor(Lines.of("a", "b", "!b", "a"))
        told = [list(editor.needless()), len(editor.leave_out(0)), list(editor.needless())]
        self.assertEqual([*told, editor.undo() == Lines.of("a", "b", "!b", "a")], [[0, 1, 3], 3, [0], True])

    def test_a_new_editor(self):
        editor = Editor(Lines.of("a", "!b"))
        self.assertEqual([editor.lines, editor.history, len(editor)], [Lines.of("a", "!b"), [], 2])

    def test_leave_out(self):
        editor = Editor(Lines.of("a", "b", "!c"))
        self.assertEqual(editor.leave_out(2), Lines.of("a", "b"))
        self.assertEqual([editor.lines, len(editor)], [Lines.of("a", "b"), 2])
        self.assertEqual(self.refused(Changes, editor.leave_out, 0).path, "a")
        self.assertEqual(self.refused(Changes, editor.leave_out, 1).path, "b")
        self.assertEqual([editor.lines, editor.history], [Lines.of("a", "b"), [Lines.of("a", "b", "!c")]])

    def test_exchange(self):
        editor = Editor(Lines.of("a*", "!ab", "c"))
        self.assertEqual(editor.exchange(1), Lines.of("a*", "c", "!ab"))
        self.assertEqual(editor.exchange(0), Lines.of("c", "a*", "!ab"))
        self.assertEqual(self.refused(Changes, editor.exchange, 1).path, "ab")
        self.assertEqual(editor.lines, Lines.of("c", "a*", "!ab"))
        self.assertEqual(editor.history, [Lines.of("a*", "!ab", "c"), Lines.of("a*", "c", "!ab")])

    def test_insert(self):
        editor = Editor(Lines.of("a/"))
        self.assertEqual(editor.insert(0, Rule.of("a/b")), Lines.of("a/b", "a/"))
        self.assertEqual(editor.insert(2, Rule.of("!a/c")), Lines.of("a/b", "a/", "!a/c"))
        self.assertEqual(editor.insert(1, Rule.of("!b")), Lines.of("a/b", "!b", "a/", "!a/c"))
        self.assertEqual(self.refused(Changes, editor.insert, 4, A).path, "a")
        self.assertEqual(self.refused(Changes, editor.insert, 0, Rule.of("c/")).path, "c/")
        self.assertEqual([len(editor), len(editor.history)], [4, 3])

    def test_the_first_path_of_two_directions(self):
        editor = Editor(Lines.of("a", "!ab"))
        self.assertEqual(self.refused(Changes, editor.leave_out, 0).path, "a")
        self.assertEqual(self.refused(Changes, editor.insert, 1, Rule.of("?b/c")).path, ".b/c")
        self.assertEqual(self.refused(Changes, editor.insert, 2, Rule.of("!a/")).path, "a/")
        self.assertEqual(self.refused(Changes, editor.insert, 2, Rule.of("!a")).path, "a")

    def test_undo(self):
        editor = Editor(Lines.of("a", "b", "a"))
        editor.leave_out(0)
        editor.exchange(0)
        editor.insert(2, A)
        self.assertEqual(editor.lines, Lines.of("a", "b", "a"))
        self.assertEqual(editor.history, [Lines.of("a", "b", "a"), Lines.of("b", "a"), Lines.of("a", "b")])
        told = [editor.undo(), editor.undo(), editor.undo()]
        self.assertEqual(told, [Lines.of("a", "b"), Lines.of("b", "a"), Lines.of("a", "b", "a")])
        self.assertEqual([editor.lines, editor.history], [Lines.of("a", "b", "a"), []])
        self.refused(NothingDone, editor.undo)
        self.assertEqual(editor.lines, Lines.of("a", "b", "a"))

    def test_nothing_to_undo(self):
        editor = Editor(Lines.of("a", "b"))
        self.refused(NothingDone, editor.undo)
        self.refused(Changes, editor.leave_out, 0)
        self.refused(InvalidIndex, editor.leave_out, 2)
        self.refused(NothingDone, editor.undo)
        self.holds(editor, list(Lines.of("a", "b")), [])

    def test_a_step_to_an_equal_list_is_a_step(self):
        editor = Editor(Lines.of("a", "a"))
        self.assertEqual(editor.exchange(0), Lines.of("a", "a"))
        self.assertEqual(editor.history, [Lines.of("a", "a")])
        self.assertEqual([editor.undo(), editor.history], [Lines.of("a", "a"), []])

    def test_steps_after_undo(self):
        editor = Editor(Lines.of("a", "a", "b"))
        editor.leave_out(0)
        editor.undo()
        editor.exchange(1)
        self.assertEqual([editor.lines, editor.history], [Lines.of("a", "b", "a"), [Lines.of("a", "a", "b")]])

    def test_one_rule(self):
        editor = Editor(Lines.of("!a"))
        self.assertEqual(list(editor.needless()), [])
        self.refused(InvalidList, editor.leave_out, 0)
        self.refused(InvalidIndex, editor.exchange, 0)
        self.holds(editor, [Rule.of("!a")], [])
        self.assertEqual(editor.insert(1, Rule.of("!a")), Lines.of("!a", "!a"))
        self.assertEqual(list(editor.needless()), [0, 1])

    def test_six_rules(self):
        lines = Lines.of("a", "!b", "c", "!a/", "a", "**/")
        editor = Editor(lines)
        for index in range(7):
            self.refused(InvalidList, editor.insert, index, A)
        self.holds(editor, list(lines), [])
        self.assertEqual(list(editor.needless()), reference.SlowEditor(list(lines)).needless())
        self.assertEqual(list(editor.needless()), [0, 1, 3, 4])
        self.assertEqual(len(editor.leave_out(1)), 5)
        self.assertEqual(len(editor.insert(5, Rule.of("a/b"))), 6)
        self.refused(InvalidList, editor.insert, 6, Rule.of("b"))


class TestNeedless(Checked):
    def test_generator(self):
        editor = Editor(Lines.of("a", "a"))
        told = editor.needless()
        self.assertIsInstance(told, GeneratorType)
        self.assertEqual([next(told), next(told)], [0, 1])
        with self.assertRaises(StopIteration):
            next(told)

    def test_what_counts_is_the_list_when_the_first_one_is_requested(self):
        editor = Editor(Lines.of("a", "b", "a"))
        early = editor.needless()
        editor.insert(3, Rule.of("!c"))
        editor.leave_out(0)
        self.assertEqual(list(early), [2])
        self.assertEqual(editor.lines, Lines.of("b", "a", "!c"))

    def test_later_steps_do_not_matter(self):
        editor = Editor(Lines.of("a", "a", "!b", "a"))
        told = editor.needless()
        self.assertEqual(next(told), 0)
        editor.leave_out(2)
        editor.leave_out(0)
        editor.leave_out(0)
        self.assertEqual(list(told), [1, 2, 3])
        self.assertEqual(list(editor.needless()), [])

    def test_two_generators(self):
        editor = Editor(Lines.of("a", "a", "b"))
        one = editor.needless()
        self.assertEqual(next(one), 0)
        editor.exchange(1)
        other = editor.needless()
        self.assertEqual([next(other), next(one), next(other)], [0, 1, 2])

    def test_it_changes_nothing(self):
        editor = Editor(Lines.of("a", "a", "b"))
        self.assertEqual([list(editor.needless()), list(editor.needless())], [[0, 1], [0, 1]])
        self.holds(editor, list(Lines.of("a", "a", "b")), [])

    def test_rules_that_leave_out_would_leave_out(self):
        for lines in some_lines(61, 120, (1, 2, 3, 4), SMALL) + some_lines(62, 80, (1, 2, 3, 4), PATTERNS):
            expected = []
            for index in range(len(lines)):
                editor = Editor(lines)
                try:
                    editor.leave_out(index)
                    expected.append(index)
                except (Changes, InvalidList):
                    pass
            self.assertEqual(list(Editor(lines).needless()), expected)
            self.assertEqual(reference.SlowEditor(list(lines)).needless(), expected)


class TestRandomSteps(Checked):
    def run_steps(self, random, lines, patterns):
        """Takes and undoes steps at random, and then undoes all; returns how many were taken and refused."""
        editor, slow = Editor(lines), reference.SlowEditor(list(lines))
        taken = refused = 0
        for _ in range(14):
            if random.random() < 0.15 and slow.past:
                slow.rules = slow.past.pop()
                self.assertEqual(list(editor.undo()), slow.rules)
            else:
                name, arguments, rules = some_step(random, slow.rules, patterns)
                path = slow.tried(rules)
                if path is None:
                    taken += 1
                    self.assertEqual(list(getattr(editor, name)(*arguments)), rules)
                else:
                    refused += 1
                    self.assertEqual(self.refused(Changes, getattr(editor, name), *arguments).path, path)
            self.holds(editor, slow.rules, slow.past)
        self.assertEqual(list(editor.needless()), slow.needless())
        for rules in reversed(slow.past):
            self.assertEqual(list(editor.undo()), rules)
        self.refused(NothingDone, editor.undo)
        self.holds(editor, list(lines), [])
        return taken, refused

    def test_against_reference(self):
        random = Random(63)
        for patterns in (SMALL, PATTERNS):
            told = [self.run_steps(random, lines, patterns) for lines in some_lines(64, 40, (1, 2, 3, 4), patterns)]
            self.assertGreater(sum(taken for taken, _ in told), 100)
            self.assertGreater(sum(refused for _, refused in told), 100)

    def test_what_is_ignored_stays_the_same(self):
        random = Random(65)
        paths = list(reference.short_paths(4, "ab"))
        for lines in some_lines(66, 30, (2, 3, 4), SMALL):
            editor = Editor(lines)
            for _ in range(25):
                name, arguments, _ = some_step(random, list(editor.lines), SMALL)
                try:
                    getattr(editor, name)(*arguments)
                except Changes as told:
                    self.assertNotEqual(told.path, None)
            for path in paths:
                self.assertEqual(path in editor.lines, path in lines)


class TestNewResults(Checked):
    def test_history_is_new(self):
        editor = Editor(Lines.of("a", "a"))
        editor.leave_out(0)
        told = editor.history
        told.append(Lines.of("b"))
        told[0] = None
        self.assertEqual(editor.history, [Lines.of("a", "a")])
        self.assertEqual(editor.undo(), Lines.of("a", "a"))
        self.assertEqual(told, [None, Lines.of("b")])

    def test_lists_never_change(self):
        lines = Lines.of("a", "a", "!b")
        editor = Editor(lines)
        before = editor.lines
        after = editor.leave_out(2)
        again = editor.leave_out(0)
        editor.undo()
        self.assertEqual([lines, before], [Lines.of("a", "a", "!b")] * 2)
        self.assertEqual([after, again], [Lines.of("a", "a"), Lines.of("a")])
        self.assertEqual([editor.lines, editor.history], [after, [lines]])

    def test_each_list_is_new(self):
        lines = Lines.of("a", "a")
        editor = Editor(lines)
        told = [lines, editor.lines, editor.lines, editor.exchange(0), editor.lines, editor.history[0], editor.undo()]
        for k, one in enumerate(told):
            for other in told[k + 1:]:
                self.assertIsNot(one, other)

    def test_two_editors_of_one_list(self):
        lines = Lines.of("a", "a")
        one, other = Editor(lines), Editor(lines)
        one.leave_out(0)
        self.holds(other, [A, A], [])
        self.holds(one, [A], [[A, A]])

    def test_properties_are_not_assigned(self):
        editor = Editor(Lines.of("a"))
        for name in ("lines", "history"):
            with self.assertRaises(AttributeError):
                setattr(editor, name, [])


class TestErrors(Checked):
    def test_no_list(self):
        for value in NOT_LINES + [Editor(Lines.of("a")), Lines, Editor]:
            self.refused(InvalidList, Editor, value)

    def test_no_index(self):
        for size in range(1, 7):
            rules = [A] * size
            editor = Editor(Lines(rules))
            for index in NOT_INDICES:
                self.refused(InvalidIndex, editor.leave_out, index)
                self.refused(InvalidIndex, editor.exchange, index)
                self.refused(InvalidIndex, editor.insert, index, A)
            self.refused(InvalidIndex, editor.leave_out, size)
            self.refused(InvalidIndex, editor.exchange, size - 1)
            self.refused(InvalidIndex, editor.exchange, size)
            self.refused(InvalidIndex, editor.insert, size + 1, A)
            self.holds(editor, rules, [])

    def test_each_index(self):
        for size in range(2, 6):
            for index in range(size):
                self.assertEqual(len(Editor(Lines([A] * size)).leave_out(index)), size - 1)
            for index in range(size - 1):
                self.assertEqual(len(Editor(Lines([A] * size)).exchange(index)), size)
            for index in range(size + 1):
                self.assertEqual(len(Editor(Lines([A] * size)).insert(index, A)), size + 1)

    def test_no_rule(self):
        for rules in ([A], [A] * 6):
            editor = Editor(Lines(rules))
            for value in NOT_RULES:
                self.refused(InvalidRule, editor.insert, 0, value)
                self.refused(InvalidRule, editor.insert, len(rules), value)
                # The index comes first.
                for index in (-1, len(rules) + 1, True, None, "0"):
                    self.refused(InvalidIndex, editor.insert, index, value)
            self.holds(editor, rules, [])

    def test_too_large(self):
        for lines in TOO_LARGE_LISTS:
            rules = list(lines)
            editor = Editor(lines)
            for index in range(len(rules)):
                self.refused(TooLarge, editor.leave_out, index)
                # The rule would be refused, because it changes what is ignored.
                self.refused(TooLarge, editor.insert, index, Rule.of("./"))
            for index in range(len(rules) - 1):
                self.refused(TooLarge, editor.exchange, index)
            told = editor.needless()
            with self.assertRaises(TooLarge):
                next(told)
            self.refused(NothingDone, editor.undo)
            self.holds(editor, rules, [])

    def test_other_errors_come_before_too_large(self):
        editor = Editor(TOO_LARGE_LISTS[1])
        many = len(editor)
        for index in (-1, many, True, None):
            self.refused(InvalidIndex, editor.leave_out, index)
        for index in (-1, many - 1, many, False, None):
            self.refused(InvalidIndex, editor.exchange, index)
        for index in (-1, many + 1, True, None):
            self.refused(InvalidIndex, editor.insert, index, A)
            self.refused(InvalidIndex, editor.insert, index, None)
        self.refused(InvalidRule, editor.insert, 0, None)
        editor = Editor(Lines([TOO_LARGE_RULE] * 6))
        self.refused(InvalidIndex, editor.insert, 7, A)
        self.refused(InvalidRule, editor.insert, 6, "a")
        self.refused(InvalidList, editor.insert, 6, A)
        self.refused(TooLarge, editor.leave_out, 5)

    def test_one_rule_is_compared_with_nothing(self):
        editor = Editor(Lines([TOO_LARGE_RULE]))
        self.assertEqual(list(editor.needless()), [])
        self.refused(InvalidList, editor.leave_out, 0)
        self.refused(InvalidIndex, editor.exchange, 0)
        self.refused(TooLarge, editor.insert, 0, A)

    def test_too_large_with_the_new_rule(self):
        editor = Editor(Lines.of("a"))
        self.refused(TooLarge, editor.insert, 0, TOO_LARGE_RULE)
        self.holds(editor, [A], [])
        self.assertEqual(len(editor.insert(0, A)), 2)

    def test_too_large_for_some_of_the_rules(self):
        editor = Editor(MANY_STATES_UNLESS_LEFT_OUT)
        self.assertEqual(self.refused(Changes, editor.leave_out, 1).path, "./")
        self.assertEqual(self.refused(Changes, editor.exchange, 0).path, "./")
        for index in (0, 2, 3, 4, 5):
            self.refused(TooLarge, editor.leave_out, index)
        with self.assertRaises(TooLarge):
            next(editor.needless())
