"""Layings: how a start lays the faces of one body on another one."""

from rimsewn.straights import corners_in, rays_of, share_of, straight, strides_of, turns_of
from rimsewn.vectors import both, flip, length_of, spun


class Laying:
    """A start of a walk: the walk's corner and vector, the start's corner and vector, and what is laid.

    For each face laid is the pair of the spot of its middle and the image of its first step, None as long
    as it is not laid.
    """

    def __init__(self, one, other, flips, walk, start):
        self.one = one
        self.other = other
        self.flips = flips
        self.walk = walk
        self.start = start
        self.m = share_of(one.kind) * length_of(one.kind, walk[1])
        self.laid = [None] * one.faces
        lay_first(self)
        lay_others(self)

    def image(self, step, vector):
        """Where a vector, told in parts of steps, goes if the first step goes by this image."""
        kind, parts = self.one.kind, share_of(self.one.kind)
        aside = spun(kind, step, -1 if self.flips else 1)
        p, q = vector
        return (p * step[0] + q * aside[0]) // parts, (p * step[1] + q * aside[1]) // parts

    def turned_image(self, step, many):
        """The image of what is the first step turned so many times."""
        return spun(self.one.kind, step, -many if self.flips else many)

    def straight_from(self, spot, step):
        """The Arrival straight from a spot of the other body by so many m-ths of steps."""
        return straight(self.other, self.m, spot, step)

    def from_middle(self, face, vector):
        """The Arrival straight from the middle of a laid face by a vector, told in parts of steps."""
        spot, step = self.laid[face]
        return self.straight_from(spot, self.image(step, vector))

    def over_side(self, side):
        """The Arrival of the step over a side of a laid face."""
        return self.from_middle(side // self.one.turn, strides_of(self.one.kind)[side % self.one.turn])

    def beyond(self, side, arrival):
        """The spot and the image with which the face beyond a side comes to lie by this step."""
        one = self.one
        mate = one.skin.mates[side]
        step = self.laid[side // one.turn][1]
        turns = one.full // 2 + turns_of(one, mate % one.turn - side % one.turn)
        return arrival.spot, spun(one.kind, self.turned_image(step, -turns), arrival.turns)


def image_of_start(laying):
    """The image of the first step at the walk's corner, by the steps at the start's corner."""
    kind = laying.one.kind
    vector, its = laying.walk[1], laying.start[1]
    a, b = both(kind, its, vector if laying.flips else flip(kind, vector))
    # The quotient by the square, in m-ths, has no remainder.
    return a * share_of(kind), b * share_of(kind)


def into_corner(body, corner, vector):
    """The corner of the same place into which a vector leads, and how often the steps there are turned back."""
    turns = 0
    a, b = vector
    while a <= 0 or b < 0:
        if b < 0:
            corner = body.skin.nexts[body.skin.mates[corner]]
            turns += 1
        else:
            corner = body.skin.mates[body.skin.backs[corner]]
            turns -= 1
        a, b = spun(body.kind, vector, turns)
    return corner, turns


def lay_first(laying):
    """Lays the face of the walk's corner."""
    one, other = laying.one, laying.other
    step = image_of_start(laying)
    ray = rays_of(one.kind)[0]
    middle = laying.image(step, (-ray[0], -ray[1]))
    corner, turns = into_corner(other, laying.start[0], middle)
    # What is told by the steps at a corner is told now by those at corner 0 of its face.
    turns += turns_of(other, corner % other.turn)
    x, y = spun(other.kind, middle, turns)
    begin = corners_in(other.kind, laying.m)[corner % other.turn]
    own = turns_of(one, laying.walk[0] % one.turn)
    image = laying.turned_image(spun(other.kind, step, turns), -own)
    laying.laid[laying.walk[0] // one.turn] = ((corner // other.turn, begin[0] + x, begin[1] + y), image)


def lay_others(laying):
    """Lays all other faces, each laid one handing on over its sides."""
    one = laying.one
    order = [laying.walk[0] // one.turn]
    at = 0
    while at < len(order):
        first = order[at] * one.turn
        for side in range(first, first + one.turn):
            face = one.skin.mates[side] // one.turn
            if laying.laid[face] is None:
                arrival = laying.over_side(side)
                if not arrival.at_tip(laying.other):
                    laying.laid[face] = laying.beyond(side, arrival)
                    order.append(face)
        at += 1
