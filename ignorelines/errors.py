"""The errors of the package."""


class LineError(ValueError):
    """The base class of all errors."""


class InvalidRule(LineError):
    """A value is not a rule, or not what a rule is made of."""


class InvalidList(LineError):
    """A value is not a list of rules, or not what a list of rules is made of."""


class InvalidSet(LineError):
    """A value is not a set of rules, or not what is taken for several of them."""


class InvalidPath(LineError):
    """A value is not a path."""


class InvalidIndex(LineError):
    """A value is not an index that can be used here."""


class TooLarge(LineError):
    """A comparison has too many states or situations."""


class Changes(LineError):
    """A step would change what is ignored; `path` is the first path for which it would."""

    def __init__(self, path=None):
        super().__init__(f"this would change what is ignored: {path}")
        self.path = path


class NothingDone(LineError):
    """There is no step to undo."""


class ParseError(LineError):
    """A text is not a list of rules; `line` is the index of the line at fault."""

    def __init__(self, line=None):
        super().__init__(f"not a list of rules, see line {line}")
        self.line = line


class DecodeError(LineError):
    """A text is not a list of sets; `offset` is the index of the pair at fault, or None."""

    def __init__(self, offset=None):
        super().__init__(f"not a list of sets, see pair {offset}")
        self.offset = offset
