"""Writes lists of sets of rules as digits, and reads such digits."""

from ignorelines.errors import DecodeError, InvalidSet
from ignorelines.lists import check_lines
from ignorelines.tracks import places_of

DIGITS = "0123456789abcdef"
MOST_SETS = 64


def is_set(value, count):
    """Whether a value is a set of rules of a list that has this many rules."""
    if not isinstance(value, tuple):
        return False
    least = 0
    for k in value:
        if isinstance(k, bool) or not isinstance(k, int) or not least <= k < count:
            return False
        least = k + 1
    return True


def pair_of(number):
    """The two digits of a number below 256."""
    return DIGITS[number // 16] + DIGITS[number & 15]


def encode_sets(lines, sets):
    """The digits of a list or tuple of sets of rules."""
    check_lines(lines)
    if not isinstance(sets, (list, tuple)) or len(sets) > MOST_SETS:
        raise InvalidSet("sets of rules are given as a list or tuple of at most 64 of them")
    if not all([is_set(chosen, len(lines)) for chosen in sets]):
        raise InvalidSet("a set of rules is an ascending tuple of indices")
    numbers = [len(sets), *[sum([1 << k for k in chosen]) for chosen in sets]]
    return "".join([pair_of(number) for number in numbers])


def numbers_of(text):
    """The numbers of a string of pairs of digits; None if the value is not such a string."""
    if not isinstance(text, str) or len(text) & 1 or not all([sign in DIGITS for sign in text]):
        return None
    return [DIGITS.find(text[k]) * 16 + DIGITS.find(text[k + 1]) for k in range(0, len(text), 2)]


def first_fault(numbers, count):
    """The index of the first number that is missing, too great, or left over, or None.

    The first number tells how many numbers follow it, each of them for a set of
    a list that has `count` rules.
    """
    if not numbers or numbers[0] > MOST_SETS:
        return 0
    expected = numbers[0] + 1
    for index, number in enumerate(numbers[:expected]):
        if index > 0 and number >= 1 << count:
            return index
    return None if len(numbers) == expected else min(len(numbers), expected)


def decode_sets(lines, text):
    """The list of the sets of rules that are written as digits."""
    check_lines(lines)
    numbers = numbers_of(text)
    if numbers is None:
        raise DecodeError(None)
    fault = first_fault(numbers, len(lines))
    if fault is not None:
        raise DecodeError(fault)
    return [places_of(number) for number in numbers[1:]]
