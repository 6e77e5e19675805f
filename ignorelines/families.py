"""All sets of rules of a list that ignore what the whole list ignores."""

from ignorelines.evidence import Evidence, copied, same
from ignorelines.selections import are_doubts, differences, doubts_of


def sorted_out(rows):
    """The faithful sets and the other ones, from the rows of `differences`."""
    faithful = [chosen for chosen, path in rows if path is None]
    unfaithful = [chosen for chosen, path in rows if path is not None]
    return faithful, unfaithful


def contains(large, small):
    """Whether a set of rules contains another one."""
    return all([k in large for k in small])


def neighbours(firsts, seconds):
    """The pairs of a first set and a second one that has all its rules but one."""
    return [
        (large, small)
        for large in firsts
        for small in seconds
        if len(small) + 1 == len(large) and contains(large, small)
    ]


def faithful_sets(lines):
    """The list of the faithful sets."""
    faithful, _ = sorted_out(differences(lines))
    return faithful


def least_sets(lines):
    """The list of the faithful sets that contain no other one."""
    faithful, _ = sorted_out(differences(lines))
    return [
        chosen for chosen in faithful
        if not any([contains(chosen, other) for other in faithful if other != chosen])
    ]


def greatest_unfaithful(lines):
    """The list of the unfaithful sets that no other one contains."""
    _, unfaithful = sorted_out(differences(lines))
    return [
        chosen for chosen in unfaithful
        if not any([contains(other, chosen) for other in unfaithful if other != chosen])
    ]


def breaches(lines):
    """The pairs of a faithful set and an unfaithful one that lacks one rule more."""
    faithful, unfaithful = sorted_out(differences(lines))
    return neighbours(faithful, unfaithful)


def rescues(lines):
    """The pairs of an unfaithful set and a faithful one that lacks one rule more."""
    faithful, unfaithful = sorted_out(differences(lines))
    return neighbours(unfaithful, faithful)


def family(lines):
    """The Family of a list."""
    rows = differences(lines)
    faithful, _ = sorted_out(rows)
    return Family(faithful, doubts_of(rows))


class Family(Evidence):
    """All faithful sets of a list, and paths that refute all other ones."""

    NAME = "family"

    def __init__(self, sets, doubts):
        self.sets = copied(sets)
        self.doubts = copied(doubts)

    @property
    def fields(self):
        """A new list of the current fields."""
        return [copied(self.sets), copied(self.doubts)]

    def is_correct(self, lines):
        """Whether the current fields are as in [7]."""
        faithful, unfaithful = sorted_out(differences(lines))
        return same(self.sets, faithful) and are_doubts(self.doubts, lines, unfaithful)
