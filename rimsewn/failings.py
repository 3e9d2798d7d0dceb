"""Failings of starts: why what a start lays is no way of laying one body on another one."""

from rimsewn.checks import is_listed, is_within
from rimsewn.layings import Laying
from rimsewn.straights import over, rays_of
from rimsewn.walks import place_reached


def end_fails(one, other, walk, start):
    """Whether the start ends at a tip, or comes to a place that gathers otherwise than that of the walk."""
    own = place_reached(one, walk[0], walk[1])
    its = place_reached(other, start[0], start[1])
    return its is None or other.gathers[its] != one.gathers[own]


def tip_fails(laying, side):
    """Whether the step over a side of a laid face comes to a tip."""
    if laying.laid[side // laying.one.turn] is None:
        return False
    return laying.over_side(side).at_tip(laying.other)


def centre_fails(laying, side):
    """Whether the face beyond a side of a laid face is laid otherwise than the step over it tells."""
    turn = laying.one.turn
    beyond = laying.laid[laying.one.skin.mates[side] // turn]
    if laying.laid[side // turn] is None or beyond is None:
        return False
    arrival = laying.over_side(side)
    return not arrival.at_tip(laying.other) and laying.beyond(side, arrival) != beyond


def points_round(m, corners):
    """The points of a grid, in m-ths, in the upright box round some corners, and perhaps beside it."""
    across, up = [x // m for x, y in corners], [y // m for x, y in corners]
    return [(x * m, y * m) for x in range(min(across), max(across) + 1) for y in range(min(up), max(up) + 1)]


def points_within(laying, corners):
    """The points of the other's grid within what a face covers, or on its sides, but for its corners."""
    found = []
    for point in points_round(laying.m, corners):
        hands = [over(corners[k - 1], corners[k], point) for k in range(len(corners))]
        # Mirrored, the corners go clockwise round the face.
        within = max(hands) <= 0 if laying.flips else min(hands) >= 0
        if within and point not in corners:
            found.append(point)
    return found


def point_fails(laying, face):
    """Whether a tip comes within a laid face or on its sides, not where a corner of it comes."""
    if laying.laid[face] is None:
        return False
    spot, step = laying.laid[face]
    middle = spot[1:]
    rays = [laying.image(step, ray) for ray in rays_of(laying.one.kind)]
    corners = [(middle[0] + x, middle[1] + y) for x, y in rays]
    for point in points_within(laying, corners):
        if laying.straight_from(spot, (point[0] - middle[0], point[1] - middle[1])).at_tip(laying.other):
            return True
    return False


def to_corner(laying, corner):
    """The Arrival straight from the middle of a laid face to where a corner of it comes."""
    turn = laying.one.turn
    return laying.from_middle(corner // turn, rays_of(laying.one.kind)[corner % turn])


def gathers_fails(laying, corner):
    """Whether the place where a corner of a laid face comes gathers otherwise than its own."""
    if laying.laid[corner // laying.one.turn] is None:
        return False
    arrival = to_corner(laying, corner)
    if arrival.early:
        return False
    many = laying.other.full if arrival.place is None else laying.other.gathers[arrival.place]
    return many != laying.one.gathers[laying.one.place_at[corner]]


def candidates(one):
    """All failings that a start can have behind that of its end."""
    sides = range(one.skin.sides)
    found = [(word, side) for side in sides for word in ("tip", "centre", "gathers")]
    return found + [("point", face) for face in range(one.faces)]


def laying_fails(laying, word, number):
    """Whether this is a failing of a start, but for that of its end."""
    if word == "point":
        return point_fails(laying, number)
    if word == "tip":
        return tip_fails(laying, number)
    return centre_fails(laying, number) if word == "centre" else gathers_fails(laying, number)


def failing_of(one, other, flips, walk, start):
    """A failing of a start, None if it has none."""
    if end_fails(one, other, walk, start):
        return "end", 0
    laying = Laying(one, other, flips, walk, start)
    for word, number in candidates(one):
        if laying_fails(laying, word, number):
            return word, number
    return None


def is_failing(one, other, flips, walk, start, value):
    """Whether any value is a failing of a start."""
    if not is_listed(value) or len(value) != 2 or not isinstance(value[0], str):
        return False
    word, number = value
    if word == "end":
        return is_within(number, 0, 0) and end_fails(one, other, walk, start)
    if word not in ("tip", "centre", "point", "gathers"):
        return False
    if not is_within(number, 0, (one.faces if word == "point" else one.skin.sides) - 1):
        return False
    return laying_fails(Laying(one, other, flips, walk, start), word, number)
