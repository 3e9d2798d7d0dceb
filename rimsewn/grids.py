"""The two kinds of grid."""

from rimsewn.errors import BadKind

KINDS = ("square", "triangle")


def is_grid(value):
    """Whether any value is a kind of grid."""
    return isinstance(value, str) and value in KINDS


def need_kind(kind):
    """Refuses what is no kind of grid."""
    if not is_grid(kind):
        raise BadKind("kind")


def sides_of(kind):
    """The number of sides of a face."""
    need_kind(kind)
    return 4 if kind == "square" else 3


def full_of(kind):
    """How many corners of faces are a full round."""
    need_kind(kind)
    return 4 if kind == "square" else 6
