"""Walks from tip to tip, and their starts on another body."""

from rimsewn.checks import is_within
from rimsewn.vectors import MOST_SQUARE, by_squares, is_vector, length_of, vectors_of
from rimsewn.walks import place_reached


def is_way(body, corner, vector):
    """Whether any values are a corner of a body, and a vector by which a walk can go."""
    if not is_within(corner, 0, body.skin.sides - 1) or not is_vector(vector):
        return False
    if vector[0] < 1 or vector[1] < 0:
        return False
    return length_of(body.kind, vector) <= MOST_SQUARE


def leads_to_tip(body, corner, vector):
    """Whether a walk comes from a tip to a tip."""
    if body.place_at[corner] not in body.tips:
        return False
    place = place_reached(body, corner, vector)
    return place is not None and place in body.tips


def is_tip_walk(body, corner, vector):
    """Whether any values tell a walk that comes from a tip to a tip, by a square of at most 400."""
    return is_way(body, corner, vector) and leads_to_tip(body, corner, vector)


def tip_walk(body):
    """The corner and the vector of a walk of the least square that comes from a tip to a tip."""
    # There always is one, by a square within the bound.
    for _, vectors in by_squares(body.kind, MOST_SQUARE):
        for corner in range(body.skin.sides):
            for vector in vectors:
                if leads_to_tip(body, corner, vector):
                    return corner, vector
    return None


def starts_from(body, places, square):
    """The starts of this square from the corners of these places, ascending."""
    corners = sorted([corner for place in places for corner in body.places[place]])
    vectors = vectors_of(body.kind, square)
    return [(corner, vector) for corner in corners for vector in vectors]


def starts_of(one, other, walk):
    """The starts of a walk of the one on the other, in their order."""
    many = one.gathers[one.place_at[walk[0]]]
    places = [place for place in other.tips if other.gathers[place] == many]
    return starts_from(other, places, length_of(one.kind, walk[1]))


def own_starts(body, walk):
    """The starts of a walk on its own body, from the place where it begins alone, in their order."""
    return starts_from(body, [body.place_at[walk[0]]], length_of(body.kind, walk[1]))
