"""Sets of rules of a list, compared with the whole list."""

from ignorelines.graphs import EXACTLY_ONE, Graph, Walk
from ignorelines.lists import check_lines
from ignorelines.machines import Machine, ignores, view
from ignorelines.paths import is_path


def differences(lines):
    """All sets of rules in their order, each with the first path that tells it from the whole list, or None.

    Raises InvalidList, TooLarge.
    """
    check_lines(lines)
    # Each set has the situations of the whole list, and its states are told by the
    # stages of all rules. So one graph of the whole list serves for all sets.
    graph = Graph(list(lines))
    whole = view(graph.machine, list(range(len(lines))))
    found = []
    for chosen in lines.subsets():
        walk = Walk(graph, view(graph.machine, chosen), whole)
        found.append((chosen, walk.first_path(EXACTLY_ONE)))
    return found


def doubts_of(rows):
    """The paths of some rows of `differences`, each once."""
    return list({path: True for _, path in rows if path is not None})


def are_doubts(doubts, lines, sets):
    """Whether all doubts are paths, and one of them tells each of the sets from the whole list."""
    if not all([is_path(path) for path in doubts]):
        return False
    machine = Machine(list(lines))
    whole = view(machine, list(range(len(lines))))
    return all([is_refuted(machine, view(machine, chosen), whole, doubts) for chosen in sets])


def is_refuted(machine, one, other, doubts):
    """Whether one of the paths is ignored by exactly one of two views."""
    return any([ignores(machine, one, path) != ignores(machine, other, path) for path in doubts])
