"""Vectors: so many first steps, and so many second ones."""

from rimsewn.checks import is_integer, is_row, is_within
from rimsewn.errors import BadNumber
from rimsewn.grids import full_of, need_kind

MOST_SQUARE = 400
MOST_STEPS = 20


def is_vector(value):
    """Whether any value is a list or tuple of two integers."""
    return is_row(value) and len(value) == 2


def need_vector(value, part):
    """Refuses what is no vector, with the name of the parameter."""
    if not is_vector(value):
        raise BadNumber(part)


def length_of(kind, vector):
    """The square of a vector."""
    a, b = vector
    return a * a + b * b if kind == "square" else a * a + a * b + b * b


def spun(kind, vector, many):
    """A vector turned so many times, counterclockwise."""
    a, b = vector
    if kind == "square":
        return ((a, b), (-b, a), (-a, -b), (b, -a))[many % 4]
    return ((a, b), (-b, a + b), (-a - b, a), (-a, -b), (b, -a - b), (a + b, -a))[many % 6]


def flip(kind, vector):
    """A vector, so that turning is the other way about."""
    a, b = vector
    return (a, -b) if kind == "square" else (a + b, -b)


def both(kind, one, other):
    """Two vectors multiplied."""
    a, b = one
    c, d = other
    if kind == "square":
        return a * c - b * d, a * d + b * c
    return a * c - b * d, a * d + b * c + b * d


def square_of(kind, vector):
    """The square of a vector."""
    need_kind(kind)
    need_vector(vector, "vector")
    return length_of(kind, vector)


def product(kind, one, other):
    """What is left of the square of the sum when both squares are taken away."""
    need_kind(kind)
    need_vector(one, "one")
    need_vector(other, "other")
    whole = length_of(kind, (one[0] + other[0], one[1] + other[1]))
    return whole - length_of(kind, one) - length_of(kind, other)


def turned(kind, vector, many):
    """A vector turned so many times, counterclockwise; below 0 the other way."""
    need_kind(kind)
    need_vector(vector, "vector")
    if not is_integer(many):
        raise BadNumber("many")
    return spun(kind, vector, many % full_of(kind))


def flipped(kind, vector):
    """A vector, so that the first step stays and turning is the other way about."""
    need_kind(kind)
    need_vector(vector, "vector")
    return flip(kind, vector)


def times(kind, one, other):
    """Two vectors multiplied."""
    need_kind(kind)
    need_vector(one, "one")
    need_vector(other, "other")
    return both(kind, one, other)


def quotient(kind, one, other):
    """The vector that, multiplied by other, is one; None if there is none."""
    need_kind(kind)
    need_vector(one, "one")
    need_vector(other, "other")
    square = length_of(kind, other)
    if square == 0:
        raise BadNumber("other")
    # A vector times itself flipped is its square, and no second step.
    a, b = both(kind, one, flip(kind, other))
    return (a // square, b // square) if a % square == 0 and b % square == 0 else None


def by_squares(kind, most):
    """For each square that comes, ascending to the greatest, its vectors with a from 1 and b from 0, ascending."""
    found = {}
    for a in range(1, MOST_STEPS + 1):
        for b in range(MOST_STEPS + 1):
            found.setdefault(length_of(kind, (a, b)), []).append((a, b))
    return [(square, tuple(found[square])) for square in sorted(list(found)) if square <= most]


def vectors_of(kind, square):
    """All vectors of a square with a from 1 and b from 0, ascending."""
    need_kind(kind)
    if not is_within(square, 1, MOST_SQUARE):
        raise BadNumber("square")
    steps = [(a, b) for a in range(1, MOST_STEPS + 1) for b in range(MOST_STEPS + 1)]
    return tuple([vector for vector in steps if length_of(kind, vector) == square])
