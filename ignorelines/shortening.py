"""The shortest list of rules that ignores what a list ignores."""

from ignorelines.evidence import Evidence, copied, same
from ignorelines.selections import are_doubts, differences, doubts_of


def first_faithful(rows):
    """The first faithful set in the rows of `differences`, and the rows of all sets with fewer rules."""
    # The whole list is faithful, so that there is a first one.
    faithful = [chosen for chosen, path in rows if path is None]
    found = faithful[0]
    return found, [(chosen, path) for chosen, path in rows if len(chosen) < len(found)]


def shortest(lines):
    """The Shortest of a list."""
    found, smaller = first_faithful(differences(lines))
    return Shortest(found, doubts_of(smaller))


class Shortest(Evidence):
    """The first faithful set of a list with the fewest rules, and paths that refute all smaller ones."""

    NAME = "shortest"

    def __init__(self, found, doubts):
        self.found = copied(found)
        self.doubts = copied(doubts)

    @property
    def fields(self):
        """A new list of the current fields."""
        return [copied(self.found), copied(self.doubts)]

    def is_correct(self, lines):
        """Whether the current fields are as in [8]."""
        found, smaller = first_faithful(differences(lines))
        sets = [chosen for chosen, _ in smaller]
        return same(self.found, found) and are_doubts(self.doubts, lines, sets)
