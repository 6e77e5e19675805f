"""The base class of results."""


def copied(value):
    """A value with new lists in it, inner ones included."""
    if isinstance(value, list):
        return [copied(part) for part in value]
    if isinstance(value, tuple):
        return tuple([copied(part) for part in value])
    return value


def same(one, other):
    """Whether two values are equal; a boolean is not equal to an integer, also inside."""
    both_lists = isinstance(one, list) and isinstance(other, list)
    both_tuples = isinstance(one, tuple) and isinstance(other, tuple)
    if both_lists or both_tuples:
        return len(one) == len(other) and all([same(mine, its) for mine, its in zip(one, other)])
    return isinstance(one, bool) == isinstance(other, bool) and one == other


class Evidence:
    """The base class of results; its subclasses store their parameters as their fields."""

    NAME = "evidence"

    @property
    def fields(self):
        """A new list of the current fields."""
        return []

    def __eq__(self, other):
        return isinstance(other, Evidence) and self.NAME == other.NAME and same(self.fields, other.fields)
