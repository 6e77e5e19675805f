"""Lists of rules."""

from ignorelines.errors import InvalidIndex, InvalidList
from ignorelines.machines import Machine, decision, ignores, last_rule, view
from ignorelines.paths import checked_names
from ignorelines.rules import Rule

MOST_RULES = 6


def all_sets(count):
    """All sets of this many rules: by the number of their rules, then as tuples."""
    found = []
    layer = [()]
    while layer:
        found.extend(layer)
        layer = [(*chosen, k) for chosen in layer for k in range(chosen[-1] + 1 if chosen else 0, count)]
    return found


class Lines:
    """A list of 1 to 6 rules."""

    def __init__(self, rules):
        if not isinstance(rules, (list, tuple)) or not 1 <= len(rules) <= MOST_RULES:
            raise InvalidList("a list of rules is a list or tuple of 1 to 6 rules")
        if not all([isinstance(rule, Rule) for rule in rules]):
            raise InvalidList("a list of rules has only rules")
        self._rules = list(rules)
        self._machine = Machine(self._rules)
        self._whole = view(self._machine, list(range(len(self._rules))))

    @classmethod
    def of(cls, *texts):
        """The list of the rules that are written as texts."""
        if not 1 <= len(texts) <= MOST_RULES:
            raise InvalidList("a list of rules has 1 to 6 rules")
        return cls([Rule.of(text) for text in texts])

    def __len__(self):
        return len(self._rules)

    def __iter__(self):
        return iter(self._rules)

    def __getitem__(self, at):
        check_index(at, len(self._rules))
        return self._rules[at]

    def __add__(self, other):
        if isinstance(other, Rule):
            return Lines([*self._rules, other])
        if not isinstance(other, Lines):
            raise InvalidList("only a list of rules or a rule is added")
        return Lines([*self._rules, *other._rules])

    def __contains__(self, path):
        checked_names(path)
        return ignores(self._machine, self._whole, path)

    def __eq__(self, other):
        return isinstance(other, Lines) and self._rules == other._rules

    def subsets(self):
        """All sets of rules, in their order."""
        for chosen in all_sets(len(self._rules)):
            yield chosen


def check_lines(*values):
    """Raises InvalidList if one of the values is not a list of rules."""
    if not all([isinstance(value, Lines) for value in values]):
        raise InvalidList("not a list of rules")


def check_index(value, count):
    """Raises InvalidIndex if a value is not one of the first indices, of which there are this many."""
    if isinstance(value, bool) or not isinstance(value, int) or not 0 <= value < count:
        raise InvalidIndex("not an index that can be used here")


def verdict(lines, path):
    """The reason for a path: a pair of a path and the index of a rule or None."""
    check_lines(lines)
    checked_names(path)
    where, hits = decision(lines._machine, lines._whole, path)
    return where, last_rule(lines._machine, hits)
