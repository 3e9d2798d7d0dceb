"""A plain counterpart of walks: faces are laid out in the plane, as complex numbers, along the line."""

from math import gcd

TINY = 1e-7


def second_step(body):
    return 1j if body.turn == 4 else complex(0.5, 3 ** 0.5 / 2)


class Placed:
    """A face laid out in the plane: where the corners with the numbers of its sides lie."""

    def __init__(self, body, side, begin, end):
        """The face of a side that goes from begin to end."""
        turn = body.turn
        outer = 1j if turn == 4 else complex(-0.5, 3 ** 0.5 / 2)
        self.body, self.at = body, {}
        step, point = end - begin, begin
        for k in range(turn):
            self.at[side // turn * turn + (side + k) % turn] = point
            point, step = point + step, step * outer

    def end(self, side):
        return self.at[self.body.skin.next(side)]

    def beyond(self, side):
        """The face beyond a side, in the same plane."""
        return Placed(self.body, self.body.skin.mate(side), self.end(side), self.at[side])

    def corner_at(self, point):
        return next((corner for corner, its in self.at.items() if abs(its - point) < TINY), None)


def crossing(begin, end, one, other):
    """How far along a line it crosses a side from left to right; None if it does not, strictly within both."""
    line, side = end - begin, other - one
    det = (line.conjugate() * side).imag
    if abs(det) < TINY:
        return None
    t = ((one - begin).conjugate() * side).imag / det
    u = ((one - begin).conjugate() * line).imag / det
    return t if TINY < t < 1 - TINY and TINY < u < 1 - TINY else None


def plain_part(body, placed, corner, a, b):
    """One part of a walk: the sides left, the face in which it ends, and the point there."""
    begin = placed.at[corner]
    first = placed.end(corner) - begin
    goal = begin + first * (a + b * second_step(body))
    sides, entered = [], None
    while placed.corner_at(goal) is None:
        told = [(crossing(begin, goal, placed.at[side], placed.end(side)), side) for side in placed.at if side != entered]
        told = [row for row in told if row[0] is not None]
        assert len(told) == 1, told
        side = told[0][1]
        sides.append(side)
        entered = body.skin.mate(side)
        placed = placed.beyond(side)
    return sides, placed, goal, first


def turned_about(body, placed, corner, direction):
    """The corner of a place, with its face laid out, whose own side goes in a direction; counterclockwise from a corner."""
    for _ in range(body.gathers[body.place_of(corner)] + 1):
        if abs(placed.end(corner) - placed.at[corner] - direction) < TINY:
            return placed, corner
        side = body.skin.back(corner)
        placed, corner = placed.beyond(side), body.skin.mate(side)
    raise AssertionError("no corner in this direction")


def plain_walk(body, corner, a, b):
    """("came", place, back corner, sides) or ("ended", place, part)."""
    placed = Placed(body, corner, 0, 1)
    parts = gcd(a, b)
    sides = []
    for part in range(1, parts + 1):
        left, placed, point, first = plain_part(body, placed, corner, a // parts, b // parts)
        sides += left
        placed, back = turned_about(body, placed, placed.corner_at(point), -first)
        place = body.place_of(back)
        if part == parts:
            return "came", place, back, tuple(sides)
        if body.gathers[place] < body.full:
            return "ended", place, part
        placed, corner = turned_about(body, placed, back, first)
    raise AssertionError("a walk has a part")
