"""Walks: straight on over a body, from a corner by a vector."""

from math import gcd

from rimsewn.bodies import need_body, need_corner_of
from rimsewn.checks import is_within
from rimsewn.errors import BadNumber, TooMany
from rimsewn.papers import Denial, Paper
from rimsewn.vectors import MOST_SQUARE, MOST_STEPS, length_of


class Came(Paper):
    """The place to which a walk comes, its back corner, and the sides by which it leaves faces."""

    def __init__(self, place, corner, sides):
        Paper.__init__(self, "came", place, corner, sides)
        self.place = self.parts[0]
        self.corner = self.parts[1]
        self.sides = self.parts[2]


class Ended(Denial):
    """The tip at which a walk ends, and at the end of which part."""

    def __init__(self, place, part):
        Denial.__init__(self, "ended", place, part)
        self.place = self.parts[0]
        self.part = self.parts[1]


def over_squares(skin, corner, a, b):
    """The sides left on the way by a vector without a common divisor, and the back corner."""
    sides = []
    # The faces lie in the plane; low is the side of the present one that lies lowest in its cell.
    low, x, y = corner, 0, 0
    while x + 1 < a or y + 1 < b:
        if b * (x + 1) < a * (y + 1):
            side = skin.nexts[low]
            low = skin.nexts[skin.mates[side]]
            x += 1
        else:
            side = skin.nexts[skin.nexts[low]]
            low = skin.mates[side]
            y += 1
        sides.append(side)
    return sides, skin.nexts[skin.nexts[low]]


def over_triangles(skin, corner, a, b):
    """The sides left on the way by a vector without a common divisor, and the back corner."""
    # From an upright cell the way goes over the side across from its corner, into the turned cell beyond.
    sides = [skin.nexts[corner]]
    beyond = skin.mates[sides[0]]
    x, y = 0, 0
    while x + 1 < a or y + 1 < b:
        if b * (x + 1) < a * (y + 1):
            side = skin.nexts[beyond]
            low = skin.nexts[skin.mates[side]]
            x += 1
        else:
            side = skin.backs[beyond]
            low = skin.mates[side]
            y += 1
        sides.append(side)
        sides.append(skin.nexts[low])
        beyond = skin.mates[skin.nexts[low]]
    return sides, skin.backs[beyond]


def part_from(skin, corner, a, b):
    """The sides left on the way by a vector without a common divisor, and the back corner."""
    if b == 0:
        return [], skin.mates[corner]
    if skin.turn == 4:
        return over_squares(skin, corner, a, b)
    return over_triangles(skin, corner, a, b)


def across_place(skin, corner):
    """The corner that lies half a full round behind this one, at a flat place."""
    for _ in range(skin.full // 2):
        corner = skin.mates[skin.backs[corner]]
    return corner


def way_from(body, corner, a, b):
    """How a walk goes: whether it comes, the place, the part where it stops, the back corner, the sides left."""
    skin = body.skin
    parts = gcd(a, b)
    sides = []
    for part in range(1, parts + 1):
        left, back = part_from(skin, corner, a // parts, b // parts)
        sides.extend(left)
        place = body.place_at[back]
        if part < parts and body.gathers[place] < body.full:
            return False, place, part, back, sides
        corner = across_place(skin, back)
    return True, place, parts, back, sides


def place_reached(body, corner, vector):
    """The place to which a walk comes, None if it ends."""
    came, place, _, _, _ = way_from(body, corner, vector[0], vector[1])
    return place if came else None


def told_walk(body, corner, a, b):
    """The Came or the Ended of a walk."""
    came, place, part, back, sides = way_from(body, corner, a, b)
    return Came(place, back, sides) if came else Ended(place, part)


def need_walk(body, corner, a, b):
    """Refuses what is no walk, or too long."""
    need_body(body, "body")
    need_corner_of(body, corner)
    if not is_within(a, 1, MOST_STEPS):
        raise BadNumber("a")
    if not is_within(b, 0, MOST_STEPS):
        raise BadNumber("b")
    if length_of(body.kind, (a, b)) > MOST_SQUARE:
        raise TooMany("square", MOST_SQUARE)


def walked(body, corner, a, b):
    """The Came or the Ended of the walk from a corner by the vector (a, b)."""
    need_walk(body, corner, a, b)
    return told_walk(body, corner, a, b)
