"""Roads: the shortest walks from place to place."""

from rimsewn.bodies import need_body
from rimsewn.checks import is_within
from rimsewn.errors import NoPlace, Twice
from rimsewn.papers import Paper
from rimsewn.vectors import MOST_SQUARE, by_squares
from rimsewn.walks import place_reached


class Road(Paper):
    """A road, as a walk: its corner and its vector."""

    def __init__(self, corner, a, b):
        Paper.__init__(self, "road", corner, a, b)
        self.corner = self.parts[0]
        self.a = self.parts[1]
        self.b = self.parts[2]


def need_places(body, one, other):
    """Refuses what are no two different places of a body."""
    need_body(body, "body")
    for place in (one, other):
        if not is_within(place, 0, len(body.places) - 1):
            raise NoPlace(place)
    if one == other:
        raise Twice(other)


def first_walk(body, one, other, vectors):
    """The first walk from the one to the other by one of these vectors, None if there is none."""
    for corner in sorted(body.places[one]):
        for vector in vectors:
            if place_reached(body, corner, vector) == other:
                return corner, vector
    return None


def road(body, one, other):
    """The first Road, by its corner, then by a, between two places."""
    need_places(body, one, other)
    # There always is a road, by a square within the bound.
    for _, vectors in by_squares(body.kind, MOST_SQUARE):
        found = first_walk(body, one, other, vectors)
        if found is not None:
            corner, vector = found
            return Road(corner, vector[0], vector[1])
    return None


def squares_from(body, one):
    """The squares of the roads from a place to each place."""
    found = {one: 0}
    for square, vectors in by_squares(body.kind, MOST_SQUARE):
        for corner in body.places[one]:
            for vector in vectors:
                place = place_reached(body, corner, vector)
                if place is not None and place not in found:
                    found[place] = square
        if len(found) == len(body.places):
            break
    return tuple([found[place] for place in range(len(body.places))])


def squares(body):
    """For each place the squares of the roads to each place, 0 for itself."""
    need_body(body, "body")
    return tuple([squares_from(body, one) for one in range(len(body.places))])


def farthest(body):
    """The triples of two places and their square, of those that are farthest from each other."""
    table = squares(body)
    found = [(one, other, table[one][other]) for one in range(len(table)) for other in range(one + 1, len(table))]
    most = max([square for _, _, square in found])
    return tuple([triple for triple in found if triple[2] == most])
