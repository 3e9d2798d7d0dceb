"""Whether a value shows how a walk goes, or which walk is a road."""

from rimsewn.checks import is_within
from rimsewn.papers import exactly
from rimsewn.roads import Road, need_places
from rimsewn.vectors import MOST_SQUARE, MOST_STEPS, by_squares, length_of
from rimsewn.walks import Came, Ended, need_walk, place_reached, told_walk


def shows_walk(body, corner, a, b, value):
    """Whether any value is the right Came or the right Ended of this walk."""
    need_walk(body, corner, a, b)
    right = told_walk(body, corner, a, b)
    if isinstance(value, Came) and value.__class__.__name__ == "Came":
        return right.word == "came" and exactly(value.parts, right.parts)
    if isinstance(value, Ended) and value.__class__.__name__ == "Ended":
        return right.word == "ended" and exactly(value.parts, right.parts)
    return False


def comes_sooner(body, one, other, square):
    """Whether a walk of a lesser square comes from the one to the other."""
    for _, vectors in by_squares(body.kind, square - 1):
        for vector in vectors:
            if other in [place_reached(body, corner, vector) for corner in body.places[one]]:
                return True
    return False


def shows_road(body, one, other, value):
    """Whether any value is a Road between these places."""
    need_places(body, one, other)
    if not isinstance(value, Road) or value.__class__.__name__ != "Road":
        return False
    corner, a, b = value.parts
    if not is_within(corner, 0, body.skin.sides - 1) or body.place_at[corner] != one:
        return False
    if not is_within(a, 1, MOST_STEPS) or not is_within(b, 0, MOST_STEPS):
        return False
    square = length_of(body.kind, (a, b))
    if square > MOST_SQUARE or place_reached(body, corner, (a, b)) != other:
        return False
    return not comes_sooner(body, one, other, square)
