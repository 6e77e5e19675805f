"""Changes a list of rules step by step without changing what is ignored."""

from ignorelines.deciding import first_difference
from ignorelines.errors import Changes, NothingDone
from ignorelines.lists import Lines, check_index, check_lines
from ignorelines.ordering import exchanged
from ignorelines.rules import check_rule


def without(rules, index):
    """The rules but the one at an index."""
    return [*rules[:index], *rules[index + 1:]]


def needless_indices(rules):
    """The indices of the rules that can be left out without changing what is ignored."""
    if len(rules) == 1:
        return []
    lines = Lines(rules)
    return [k for k in range(len(rules)) if first_difference(lines, Lines(without(rules, k))) is None]


class Editor:
    """A list of rules that is changed in steps, each of which can be undone."""

    def __init__(self, lines):
        check_lines(lines)
        # These lists are replaced, never changed, so that a step can keep the one before.
        self._rules = list(lines)
        self._past = []

    @property
    def lines(self):
        """The current list."""
        return Lines(self._rules)

    @property
    def history(self):
        """The lists before each step that has not been undone, the first one first."""
        return [Lines(rules) for rules in self._past]

    def __len__(self):
        return len(self._rules)

    def leave_out(self, index):
        """Leaves out the rule at an index, and returns the new list."""
        check_index(index, len(self._rules))
        return self._changed_to(without(self._rules, index))

    def exchange(self, index):
        """Exchanges the rules at an index and at the next one, and returns the new list."""
        return self._changed_to(list(exchanged(self.lines, index)))

    def insert(self, index, rule):
        """Inserts a rule in front of the one at an index, or at the end, and returns the new list."""
        check_index(index, len(self._rules) + 1)
        check_rule(rule)
        return self._changed_to([*self._rules[:index], rule, *self._rules[index:]])

    def undo(self):
        """Undoes the last step, and returns the list."""
        if not self._past:
            raise NothingDone("there is no step to undo")
        self._rules = self._past.pop()
        return self.lines

    def needless(self):
        """The indices of all rules that could be left out when the first one is requested."""
        for index in needless_indices(self._rules):
            yield index

    def _changed_to(self, rules):
        """Takes the step to other rules if it changes nothing that is ignored."""
        changed = Lines(rules)
        path = first_difference(self.lines, changed)
        if path is not None:
            raise Changes(path)
        self._past.append(self._rules)
        self._rules = rules
        return changed
