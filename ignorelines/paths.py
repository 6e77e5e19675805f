"""Names and paths."""

from ignorelines.errors import InvalidPath

SIGNS = ".abc"


def is_name(text):
    """Whether a string is a name."""
    return text != "" and all([sign in SIGNS for sign in text])


def names_of(path):
    """The names of a path, or None if the value is not a path."""
    if not isinstance(path, str):
        return None
    names = (path[:-1] if path.endswith("/") else path).split("/")
    return names if all([is_name(name) for name in names]) else None


def is_path(value):
    """Whether a value is a path."""
    return names_of(value) is not None


def checked_names(path):
    """The names of a path; raises InvalidPath if the value is not a path."""
    names = names_of(path)
    if names is None:
        raise InvalidPath("a path is a string of names of the signs . a b c with slashes between them")
    return names
