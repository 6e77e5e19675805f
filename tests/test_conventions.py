"""[1] for the whole package: errors and their order, and that nothing is kept or shared."""

from unittest import TestCase

from ignorelines.deciding import Agree, Differ, compare, first_difference, first_uncovered
from ignorelines.digits import decode_sets, encode_sets
from ignorelines.editors import Editor
from ignorelines.errors import (
    DecodeError, InvalidIndex, InvalidList, InvalidPath, InvalidRule, InvalidSet, LineError, ParseError, TooLarge,
)
from ignorelines.evidence import Evidence
from ignorelines.families import (
    Family, breaches, faithful_sets, family, greatest_unfaithful, least_sets, rescues,
)
from ignorelines.lists import Lines, verdict
from ignorelines.ordering import exchanged, free_neighbours
from ignorelines.rules import Rule
from ignorelines.shortening import Shortest, shortest
from ignorelines.texts import lines_text, read_lines, rule_text
from samples import NOT_INDICES, NOT_LINES, NOT_PATHS, NOT_RULES, TOO_LARGE_LISTS

A = Rule("a")
LINES = Lines.of("a", "!b/", "a")
OTHER = Lines.of("!b", "a")
NOT_TEXTS_OF_RULES = ["", "d", "//", None, True, 0, ["a"], b"a", A]
NOT_SETS = [None, True, 0, "00", [None], [(True,)], [(1, 0)], [(3,)], [[0]], ((0,), 1), {(0,)}, [()] * 65, LINES]
NOT_TEXTS = [None, True, 0, "", "a", "d\n", "a\nb", b"a\n", ["a\n"], "a\n" * 7, LINES]
NOT_DIGITS = [None, True, 0, "", "0", "0G", "0108", "01", "0001", b"00", ["00"], "41"]
NOT_RULE_LISTS = [None, True, 0, "a", [], (), ["a"], [A, None], [A] * 7, {A.pattern: A}, LINES, A]


def pattern_and_marks(pattern, again, directories, anchored):
    return Rule(pattern, again=again, directories=directories, anchored=anchored)


def contained(lines, path):
    return path in lines


def indexed(lines, index):
    return lines[index]


def added(lines, other):
    return lines + other


def of_texts(*texts):
    return Lines.of(*texts)


def of_many_texts(texts):
    return Lines.of(*texts)


def step(name):
    """A step of an editor of three rules, two of which are needless together."""
    def taken(*arguments):
        return getattr(Editor(LINES), name)(*arguments)
    return taken


def needless(lines):
    return list(Editor(lines).needless())


# For each function, method and constructor: valid arguments, and the errors in
# their order, each with the place of the argument and wrong values for it.
CALLS = [
    (pattern_and_marks, ["a", True, False, True], [
        (InvalidRule, 0, ["", "//", None, True]), (InvalidRule, 1, [0, None]), (InvalidRule, 2, [1, ""]),
        (InvalidRule, 3, ["a", []]),
    ]),
    (A.matches, ["a/b"], [(InvalidPath, 0, NOT_PATHS)]),
    (Rule.of, ["!/a/"], [(InvalidRule, 0, NOT_TEXTS_OF_RULES)]),
    (Lines, [[A]], [(InvalidList, 0, NOT_RULE_LISTS)]),
    (of_texts, ["a", "b"], [(InvalidRule, 0, NOT_TEXTS_OF_RULES), (InvalidRule, 1, NOT_TEXTS_OF_RULES)]),
    (of_many_texts, [["a"]], [(InvalidList, 0, [[], ["a"] * 7, ["d"] * 7])]),
    (indexed, [LINES, 2], [(InvalidIndex, 1, [*NOT_INDICES, 3])]),
    (added, [LINES, OTHER], [(InvalidList, 1, [Lines([A] * 4)])]),
    (contained, [LINES, "a/b"], [(InvalidPath, 1, NOT_PATHS)]),
    (verdict, [LINES, "a/b"], [(InvalidList, 0, NOT_LINES), (InvalidPath, 1, NOT_PATHS)]),
    (exchanged, [LINES, 1], [(InvalidList, 0, NOT_LINES), (InvalidIndex, 1, [*NOT_INDICES, 2, 3])]),
    (rule_text, [A], [(InvalidRule, 0, NOT_RULES)]),
    (lines_text, [LINES], [(InvalidList, 0, NOT_LINES)]),
    (read_lines, ["a\n"], [(ParseError, 0, NOT_TEXTS)]),
    (encode_sets, [LINES, [(0, 2)]], [(InvalidList, 0, NOT_LINES), (InvalidSet, 1, NOT_SETS)]),
    (decode_sets, [LINES, "0105"], [(InvalidList, 0, NOT_LINES), (DecodeError, 1, NOT_DIGITS)]),
    (Editor, [LINES], [(InvalidList, 0, NOT_LINES)]),
    (step("leave_out"), [0], [(InvalidIndex, 0, [*NOT_INDICES, 3])]),
    (step("exchange"), [0], [(InvalidIndex, 0, [*NOT_INDICES, 2, 3])]),
    (step("insert"), [1, A], [(InvalidIndex, 0, [*NOT_INDICES, 4]), (InvalidRule, 1, NOT_RULES)]),
    *[
        (function, [LINES], [(InvalidList, 0, NOT_LINES), (TooLarge, 0, TOO_LARGE_LISTS)])
        for function in (
            faithful_sets, least_sets, greatest_unfaithful, breaches, rescues, family, shortest, free_neighbours, needless,
            Family([], []).is_correct, Family([(0,)], ["a"]).is_correct, Family([], ["//"]).is_correct,
            Shortest((), []).is_correct, Shortest((0,), ["a"]).is_correct, Shortest((), ["//"]).is_correct,
        )
    ],
    *[
        (function, [LINES, OTHER], [
            (InvalidList, 0, NOT_LINES), (InvalidList, 1, NOT_LINES), (TooLarge, 0, TOO_LARGE_LISTS),
            (TooLarge, 1, TOO_LARGE_LISTS),
        ])
        for function in (compare, first_difference, first_uncovered, Agree([]).is_correct, Differ("a").is_correct)
    ],
]


class TestErrors(TestCase):
    def refused(self, error, function, arguments):
        with self.assertRaises(LineError, msg=repr((function, arguments))) as told:
            function(*arguments)
        self.assertIs(type(told.exception), error, repr((function, arguments)))

    def test_valid_arguments_raise_none(self):
        for function, valid, _ in CALLS:
            function(*valid)

    def test_one_wrong_argument(self):
        for function, valid, errors in CALLS:
            for error, at, values in errors:
                for value in values:
                    self.refused(error, function, [*valid[:at], value, *valid[at + 1:]])

    def test_two_wrong_arguments(self):
        for function, valid, errors in CALLS:
            for k, (error, at, values) in enumerate(errors):
                for _, place, others in errors[k + 1:]:
                    if place == at:
                        continue
                    for value in values:
                        for other in others[:4]:
                            arguments = list(valid)
                            arguments[at], arguments[place] = value, other
                            self.refused(error, function, arguments)

    def test_the_number_of_texts_comes_before_the_texts(self):
        self.refused(InvalidList, Lines.of, ["d"] * 7)
        self.refused(InvalidList, Lines.of, [None] * 8)
        self.refused(InvalidRule, Lines.of, ["a"] * 5 + ["d"])

    def test_refused_arguments_are_not_changed(self):
        rules, sets = [A, "a"], [(0,), (1, 0)]
        self.refused(InvalidList, Lines, [rules])
        self.refused(InvalidSet, encode_sets, [LINES, sets])
        self.assertEqual([rules, sets], [[A, "a"], [(0,), (1, 0)]])


class TestBooleans(TestCase):
    def test_they_are_not_indices(self):
        for value in (False, True):
            for function in (LINES.__getitem__, Editor(LINES).leave_out, Editor(LINES).exchange):
                with self.assertRaises(InvalidIndex):
                    function(value)
            with self.assertRaises(InvalidIndex):
                exchanged(LINES, value)
            with self.assertRaises(InvalidIndex):
                Editor(LINES).insert(value, A)
            with self.assertRaises(InvalidSet):
                encode_sets(LINES, [(value,)])

    def test_integers_are_not_marks(self):
        for value in (0, 1):
            with self.assertRaises(InvalidRule):
                Rule("a", again=value)


class TestNothingIsShared(TestCase):
    def test_results_of_all_functions(self):
        for function, valid, _ in CALLS:
            first = function(*valid)
            if isinstance(first, list):
                first.append("x")
                first[0] = None
                self.assertNotEqual(function(*valid), first)

    def test_fields_of_results(self):
        for make in (
            lambda: compare(LINES, LINES), lambda: compare(LINES, OTHER), lambda: family(LINES), lambda: shortest(LINES),
            Evidence,
        ):
            result = make()
            fields = result.fields
            for field in [*fields, *[value for value in vars(result).values()]]:
                if isinstance(field, list):
                    field.clear()
            fields.clear()
            self.assertEqual(make(), make())
            self.assertEqual(len(make().fields), len(vars(result)))

    def test_attributes_of_two_results_of_the_same_lists(self):
        one, other = family(LINES), family(LINES)
        one.sets.clear()
        one.doubts.append("a")
        self.assertTrue(other.is_correct(LINES))
        one, other = compare(LINES, LINES), compare(LINES, LINES)
        one.states.append(one.states[0])
        self.assertEqual(len(one.states), len(other.states) + 1)

    def test_is_correct_changes_nothing(self):
        for result, lists in (
            (compare(LINES, LINES), [LINES, LINES]), (compare(LINES, OTHER), [LINES, OTHER]), (family(LINES), [LINES]),
            (shortest(LINES), [LINES]),
        ):
            before = result.fields
            self.assertIs(result.is_correct(*lists), True)
            self.assertEqual(result.fields, before)

    def test_arguments_that_are_changed_afterwards(self):
        rules, sets, doubts, states = [A], [(0,)], ["a"], [(((0,),), ((0,),))]
        made = [Lines(rules), Family(sets, doubts), Shortest((0,), doubts), Agree(states)]
        told = encode_sets(LINES, sets)
        for changed in (rules, sets, doubts, states):
            changed.clear()
        self.assertEqual(made[0], Lines.of("a"))
        self.assertEqual(made[1:], [Family([(0,)], ["a"]), Shortest((0,), ["a"]), Agree([(((0,),), ((0,),))])])
        self.assertEqual(told, "0101")

    def test_lists_are_not_changed_by_any_function(self):
        before = [list(LINES), list(OTHER)]
        for function, valid, _ in CALLS:
            function(*valid)
        self.assertEqual([list(LINES), list(OTHER)], before)

    def test_tuples_in_the_place_of_lists(self):
        self.assertEqual(Lines((A, A)), Lines([A, A]))
        self.assertEqual(encode_sets(LINES, ((0,), (1, 2))), encode_sets(LINES, [(0,), (1, 2)]))
