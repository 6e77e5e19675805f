"""ignorelines/digits.py: [12]."""

from random import Random
from unittest import TestCase

import reference
from ignorelines.digits import decode_sets, encode_sets
from ignorelines.errors import DecodeError, InvalidList, InvalidSet
from ignorelines.lists import Lines
from ignorelines.rules import Rule
from ignorelines.texts import read_lines
from samples import NOT_LINES

SIX = Lines.of("a", "!b", "c/", "/a", "!/b", "c")
DIGITS = "0123456789abcdef"

# What is no set of a list, whatever its length.
NOT_SETS = [
    None, True, False, 0, 1, "", "0", "a", b"\x00", [], [0], [0, 1], {}, {0}, {0: 1}, frozenset(), object(), range(1), int,
    (1, 0), (0, 0), (0, 1, 1), (0, 2, 1), (-1,), (-1, 0), (6,), (0, 6), (0, 7), (10 ** 30,), (True,), (False,), (0, True),
    (False, 1), (None,), ("0",), ((0,),), ([0],), (0, "1"), (0, None), (b"0",), (object(),), (0, 1, 2, 3, 4, 5, 6),
]


def lists():
    return [Lines(list(SIX)[:size]) for size in range(1, 7)]


def plain_digits(sets):
    return "".join(f"{number:02x}" for number in [len(sets), *[sum(2 ** k for k in chosen) for chosen in sets]])


def some_sets(seed, number):
    """Lists of rules, each with a list of sets of it."""
    random = Random(seed)
    found = []
    for _ in range(number):
        lines = random.choice(lists())
        every = reference.all_sets(len(lines))
        found.append((lines, [random.choice(every) for _ in range(random.choice((0, 1, 2, 3, 5, 9, 64)))]))
    return found


class TestWriting(TestCase):
    def test_example_of_the_interface(self):
        lines = read_lines("!/a/**/b*/\nc\n")
        told = [encode_sets(lines, [(0,), (0, 1)]), decode_sets(lines, "0102")]
        self.assertEqual(told, ["020103", [(1,)]])

    def test_single_sets(self):
        for chosen, digits in (
            ((), "0100"), ((0,), "0101"), ((1,), "0102"), ((2,), "0104"), ((3,), "0108"), ((4,), "0110"), ((5,), "0120"),
            ((0, 2), "0105"), ((1, 3), "010a"), ((0, 1, 2, 3), "010f"), ((0, 5), "0121"), ((0, 1, 2, 3, 4, 5), "013f"),
        ):
            self.assertEqual(encode_sets(SIX, [chosen]), digits)
            self.assertEqual(decode_sets(SIX, digits), [chosen])

    def test_no_sets(self):
        for lines in lists():
            self.assertEqual([encode_sets(lines, []), encode_sets(lines, ())], ["00", "00"])
            self.assertEqual(decode_sets(lines, "00"), [])

    def test_order_and_repetition_are_kept(self):
        self.assertEqual(encode_sets(SIX, [(1,), (0,), (1,), ()]), "0402010200")
        self.assertEqual(decode_sets(SIX, "0402010200"), [(1,), (0,), (1,), ()])

    def test_lists_and_tuples(self):
        for lines, sets in some_sets(51, 150):
            digits = plain_digits(sets)
            self.assertEqual(encode_sets(lines, sets), digits)
            self.assertEqual(encode_sets(lines, tuple(sets)), digits)

    def test_64_sets(self):
        every = reference.all_sets(6)
        self.assertEqual(len(every), 64)
        digits = encode_sets(SIX, every)
        self.assertEqual([digits, len(digits)], [plain_digits(every), 130])
        self.assertEqual(digits[:2], "40")
        self.assertEqual(decode_sets(SIX, digits), every)
        self.assertEqual(encode_sets(Lines.of("a"), [(0,)] * 64), "40" + "01" * 64)

    def test_65_sets(self):
        for sets in ([()] * 65, ((),) * 65, [(0,)] * 65, [()] * 1000, [None] * 65):
            with self.assertRaises(InvalidSet):
                encode_sets(SIX, sets)

    def test_arguments_are_not_changed(self):
        sets = [(1,), (0,)]
        digits = encode_sets(SIX, sets)
        self.assertEqual(sets, [(1,), (0,)])
        sets.clear()
        self.assertEqual(digits, "020201")

    def test_no_list_of_sets(self):
        for value in (
            None, True, False, 0, 1, "", "00", "()", b"", {}, {()}, {(): True}, frozenset(), object(), range(1), list, SIX,
            Rule("a"), iter([()]), (chosen for chosen in [()]), 10 ** 30,
        ):
            with self.assertRaises(InvalidSet, msg=repr(value)):
                encode_sets(SIX, value)

    def test_no_set(self):
        for lines in lists():
            for value in NOT_SETS:
                for sets in ([value], (value,), [(), value], [value, (0,)], [(0,), value, value]):
                    with self.assertRaises(InvalidSet, msg=repr(sets)):
                        encode_sets(lines, sets)

    def test_an_index_beyond_the_list(self):
        for lines in lists():
            many = len(lines)
            self.assertEqual(encode_sets(lines, [(many - 1,)]), plain_digits([(many - 1,)]))
            for chosen in ((many,), (0, many), (many - 1, many), (many + 1,)):
                with self.assertRaises(InvalidSet):
                    encode_sets(lines, [chosen])

    def test_no_list(self):
        for value in NOT_LINES:
            for sets in ([], [(0,)], None, [(9,)], [()] * 65):
                with self.assertRaises(InvalidList, msg=repr(value)):
                    encode_sets(value, sets)


class TestReading(TestCase):
    def offset(self, lines, text):
        with self.assertRaises(DecodeError, msg=repr(text)) as told:
            decode_sets(lines, text)
        return told.exception.offset

    def test_each_text_is_read_again(self):
        for lines, sets in some_sets(52, 150):
            told = decode_sets(lines, plain_digits(sets))
            self.assertEqual(told, sets)
            self.assertIs(type(told), list)
            for chosen in told:
                self.assertIs(type(chosen), tuple)

    def test_results_are_new(self):
        told = decode_sets(SIX, "0102")
        told.append(())
        self.assertEqual(decode_sets(SIX, "0102"), [(1,)])

    def test_no_pairs_of_digits(self):
        for text in (
            "0", "000", "01020", "0g", "0A", "0F", "01 2", " 00", "00 ", "00\n", "0x00", "-1", "+0", "1_", "0.", "G0", "0102\n0",
            "\u0660\u0660", "\uff10\uff10", "\u00b2\u00b2", "01,2", "0\x00", "zz", "01AB", "1.0\n",
        ):
            self.assertIsNone(self.offset(SIX, text), repr(text))

    def test_no_string(self):
        for value in (
            None, True, False, 0, 1, b"00", b"", [], ["00"], ["0", "0"], (), ("0", "0"), {}, {"00"}, object(), str, SIX,
            10 ** 30,
        ):
            self.assertIsNone(self.offset(SIX, value))

    def test_the_empty_string(self):
        for lines in lists():
            self.assertEqual(self.offset(lines, ""), 0)

    def test_too_many_sets(self):
        for lines in lists():
            for text in ("41", "ff", "41" + "00" * 65, "80", "4100", "41ff"):
                self.assertEqual(self.offset(lines, text), 0)

    def test_missing_pairs(self):
        self.assertEqual(self.offset(SIX, "01"), 1)
        self.assertEqual(self.offset(SIX, "0201"), 2)
        self.assertEqual(self.offset(SIX, "40"), 1)
        self.assertEqual(self.offset(SIX, "40" + "00" * 63), 64)

    def test_pairs_that_are_left_over(self):
        self.assertEqual(self.offset(SIX, "0000"), 1)
        self.assertEqual(self.offset(SIX, "00ff"), 1)
        self.assertEqual(self.offset(SIX, "010000"), 2)
        self.assertEqual(self.offset(SIX, "01000000"), 2)
        self.assertEqual(self.offset(SIX, "40" + "00" * 65), 65)

    def test_too_great_numbers(self):
        for lines in lists():
            most = 2 ** len(lines)
            self.assertEqual(decode_sets(lines, f"01{most - 1:02x}"), [tuple(range(len(lines)))])
            for number in (most, most + 1, 255):
                for before in (0, 1, 5, 63):
                    text = f"{before + 1:02x}" + "01" * before + f"{number:02x}"
                    self.assertEqual(self.offset(lines, text), before + 1)

    def test_the_first_of_several_faults(self):
        lines = Lines.of("a", "b")
        self.assertEqual(self.offset(lines, "0204"), 1)
        self.assertEqual(self.offset(lines, "030104"), 2)
        self.assertEqual(self.offset(lines, "010400"), 1)
        self.assertEqual(self.offset(lines, "01000400"), 2)
        self.assertEqual(self.offset(lines, "03040404"), 1)
        self.assertIsNone(self.offset(lines, "4"))
        self.assertIsNone(self.offset(lines, "41f"))
        self.assertIsNone(self.offset(lines, "0104G0"))

    def test_shortened_and_longer_texts(self):
        for lines, sets in some_sets(53, 120):
            text = plain_digits(sets)
            self.assertIsNone(self.offset(lines, text[:-1]))
            self.assertEqual(self.offset(lines, text[:-2]), len(sets))
            self.assertIsNone(self.offset(lines, text + "0"))
            self.assertEqual(self.offset(lines, text + "00"), len(sets) + 1)
            self.assertEqual(self.offset(lines, text + "ff00"), len(sets) + 1)

    def test_one_place_changed(self):
        random = Random(54)
        for lines, sets in some_sets(55, 300):
            text = plain_digits(sets)
            at = random.randrange(len(text))
            sign = random.choice(DIGITS)
            changed = text[:at] + sign + text[at + 1:]
            self.check(lines, changed)
            for wrong in "AFg \n":
                self.assertIsNone(self.offset(lines, text[:at] + wrong + text[at + 1:]))

    def check(self, lines, text):
        """Compares with [12] for a text that is made of pairs of digits."""
        pairs = [int(text[k:k + 2], 16) for k in range(0, len(text), 2)]
        faults = [index for index, number in enumerate(pairs) if number >= (65 if index == 0 else 2 ** len(lines))]
        faults += [pairs[0] + 1] if len(pairs) > pairs[0] + 1 else []
        faults += [len(pairs)] if len(pairs) < pairs[0] + 1 else []
        if faults:
            self.assertEqual(self.offset(lines, text), min(faults))
        else:
            self.assertEqual(encode_sets(lines, decode_sets(lines, text)), text)

    def test_texts_of_all_sorts(self):
        random = Random(56)
        for lines in lists():
            for _ in range(300):
                size = random.randrange(1, 6)
                first = random.choice((0, 1, 2, 3, 4, 64, 65, 255))
                rest = [random.choice((0, 1, 2, 3, 7, 15, 31, 63, 64, 255)) for _ in range(size - 1)]
                self.check(lines, "".join(f"{number:02x}" for number in [first, *rest]))

    def test_no_list(self):
        for value in NOT_LINES:
            for text in ("00", "", "0", None, "0109", "41"):
                with self.assertRaises(InvalidList, msg=repr(value)):
                    decode_sets(value, text)
