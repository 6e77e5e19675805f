"""Compares two lists of rules for all paths."""

from ignorelines.evidence import Evidence, copied, same
from ignorelines.graphs import EXACTLY_ONE, ONLY_SECOND, Graph, Walk
from ignorelines.lists import check_lines
from ignorelines.machines import stage, view


def walk_of(one, other):
    """The walk of two lists; raises InvalidList, TooLarge."""
    check_lines(one, other)
    graph = Graph([*one, *other])
    indices = list(range(len(one) + len(other)))
    return Walk(graph, view(graph.machine, indices[:len(one)]), view(graph.machine, indices[len(one):]))


def states_of(walk, count):
    """The states of a walk as pairs of tuples of stages; the first list has this many rules."""
    machine = walk.graph.machine
    found = []
    for state in walk.firsts:
        stages = [stage(machine, index, state) for index in range(len(machine.patterns.ends))]
        found.append((tuple(stages[:count]), tuple(stages[count:])))
    return found


def compare(one, other):
    """An Agree or a Differ for two lists."""
    walk = walk_of(one, other)
    path = walk.first_path(EXACTLY_ONE)
    if path is None:
        return Agree(states_of(walk, len(one)))
    return Differ(path)


def first_difference(one, other):
    """The first path that exactly one of two lists ignores, or None."""
    return walk_of(one, other).first_path(EXACTLY_ONE)


def first_uncovered(one, other):
    """The first path that the other list ignores and the one does not, or None."""
    return walk_of(one, other).first_path(ONLY_SECOND)


class Agree(Evidence):
    """Two lists agree: all their states, in none of which a name makes a difference."""

    NAME = "agree"

    def __init__(self, states):
        self.states = copied(states)

    @property
    def fields(self):
        """A new list of the current fields."""
        return [copied(self.states)]

    def is_correct(self, one, other):
        """Whether the two lists agree and the current states are what [6] asks for.

        Every state is reached from the one at the beginning, so that such a list
        contains all of them, and nothing else.
        """
        walk = walk_of(one, other)
        if walk.first_path(EXACTLY_ONE) is not None:
            return False
        # As texts, because the current states may contain anything, and True is not 1.
        return {repr(state) for state in self.states} == {repr(state) for state in states_of(walk, len(one))}


class Differ(Evidence):
    """Two lists differ: the first path that exactly one of them ignores."""

    NAME = "differ"

    def __init__(self, path):
        self.path = path

    @property
    def fields(self):
        """A new list of the current fields."""
        return [copied(self.path)]

    def is_correct(self, one, other):
        """Whether the current path is the one that compare returns."""
        return same(self.path, first_difference(one, other))
