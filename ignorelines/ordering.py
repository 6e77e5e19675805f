"""Exchanges neighbouring rules of a list."""

from ignorelines.deciding import first_difference
from ignorelines.lists import Lines, check_index, check_lines


def exchanged(lines, index):
    """The list in which the rules at an index and at the next one are exchanged."""
    check_lines(lines)
    check_index(index, len(lines) - 1)
    rules = list(lines)
    return Lines([*rules[:index], rules[index + 1], rules[index], *rules[index + 2:]])


def free_neighbours(lines):
    """The indices at which neighbours can be exchanged without changing what is ignored."""
    check_lines(lines)
    # Neighbours that seem free are compared, too, because this may be too large.
    return [k for k in range(len(lines) - 1) if first_difference(lines, exchanged(lines, k)) is None]
