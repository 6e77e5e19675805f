"""Rules."""

from ignorelines.errors import InvalidRule
from ignorelines.machines import Machine, state_after
from ignorelines.paths import checked_names

MOST_CHARACTERS = 12
MOST_PARTS = 4
PART_SIGNS = ".abc?*"


def is_part(text):
    """Whether a string is a part of a pattern."""
    if text == "**":
        return True
    return text != "" and "**" not in text and all([sign in PART_SIGNS for sign in text])


def is_pattern(value):
    """Whether a value is a pattern."""
    if not isinstance(value, str) or len(value) > MOST_CHARACTERS:
        return False
    parts = value.split("/")
    return len(parts) <= MOST_PARTS and all([is_part(part) for part in parts])


class Rule:
    """A pattern, and three marks."""

    def __init__(self, pattern, *, again=False, directories=False, anchored=False):
        if not is_pattern(pattern):
            raise InvalidRule("a pattern is a string of 1 to 4 parts and at most 12 characters")
        if not all([isinstance(mark, bool) for mark in (again, directories, anchored)]):
            raise InvalidRule("a mark is a boolean")
        self._pattern = pattern
        self._again = again
        self._directories = directories
        self._anchored = anchored
        self._machine = Machine([self])

    @classmethod
    def of(cls, text):
        """The rule that is written as a text."""
        if not isinstance(text, str):
            raise InvalidRule("the text of a rule is a string")
        again = text.startswith("!")
        rest = text[1:] if again else text
        anchored = rest.startswith("/")
        rest = rest[1:] if anchored else rest
        directories = rest.endswith("/")
        rest = rest[:-1] if directories else rest
        return cls(rest, again=again, directories=directories, anchored=anchored)

    @property
    def pattern(self):
        """The pattern, a string."""
        return self._pattern

    @property
    def again(self):
        """Whether the rule includes again."""
        return self._again

    @property
    def directories(self):
        """Whether the rule is for directories only."""
        return self._directories

    @property
    def anchored(self):
        """Whether the rule is anchored."""
        return self._anchored

    def matches(self, path):
        """Whether the rule matches a path."""
        names = checked_names(path)
        if self._directories and not path.endswith("/"):
            return False
        return state_after(self._machine, names) & self._machine.patterns.ends[0] != 0

    def __eq__(self, other):
        return (
            isinstance(other, Rule)
            and self._pattern == other._pattern
            and self._again == other._again
            and self._directories == other._directories
            and self._anchored == other._anchored
        )


def check_rule(value):
    """Raises InvalidRule if a value is not a rule."""
    if not isinstance(value, Rule):
        raise InvalidRule("not a rule")
