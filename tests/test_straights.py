"""Straight ways from spots within faces, over sides, places and to tips, against faces laid out in the plane."""

import random
import unittest

from drawn import drawn_body
from plain_layings import frame, local, plain_straight, second_step
from plain_walks import TINY
from rimsewn.boxes import box
from rimsewn.listed import bodies_of
from rimsewn.straights import straight
from rimsewn.vectors import spun


def some_bodies():
    for kind, faces in (("square", 1), ("square", 2), ("square", 3), ("triangle", 2), ("triangle", 4)):
        yield from bodies_of(kind, faces)
    yield box(1, 1, 2)
    for kind in ("square", "triangle"):
        yield drawn_body(kind, 12, 1)
        yield drawn_body(kind, 24, 1)


def inner_spots(body, m):
    """The spots strictly within a face, in m-ths."""
    return [(x, y) for x in range(1, m) for y in range(1, m) if body.turn == 4 or x + y < m]


class StraightsTest(unittest.TestCase):
    def check(self, body, m, spot, step):
        """Asks of one way; returns how it ended, and whether it met a place on the way."""
        second = second_step(body)
        face, x, y = spot
        begin = (x + y * second) / m
        goal = begin + (step[0] + step[1] * second) / m
        placed = frame(body, face)
        right = plain_straight(body, placed, begin, goal)
        told = straight(body, m, spot, step)
        if right[0] == "tip":
            self.assertEqual((told.early, told.place, told.spot), (True, right[1], None))
            self.assertTrue(told.at_tip(body))
            return "early"
        self.assertEqual((told.early, told.place), (False, right[2]))
        its, point, direction = local(body, right[1], goal, goal - begin)
        if right[2] is None:
            self.assertEqual(told.spot[0], its)
        if told.spot[0] == its:
            self.assertLess(abs((told.spot[1] + told.spot[2] * second) / m - point), TINY)
            a, b = spun(body.kind, step, told.turns)
            self.assertLess(abs((a + b * second) / m - direction), TINY)
        at_tip = right[2] is not None and right[2] in body.tips
        self.assertIs(told.at_tip(body), at_tip)
        return "tip" if at_tip else "place" if right[2] is not None else "spot"

    def test_drawn_ways(self):
        draw = random.Random(1)
        seen = {"early": 0, "tip": 0, "place": 0, "spot": 0}
        for body in some_bodies():
            for m in (3, 5, 6, 10):
                spots = inner_spots(body, m)
                for _ in range(60):
                    x, y = draw.choice(spots)
                    face = draw.randrange(body.faces)
                    step = (draw.randrange(-3 * m, 3 * m + 1), draw.randrange(-3 * m, 3 * m + 1))
                    if not self.ends_on_a_side(body, m, (x + step[0], y + step[1])):
                        seen[self.check(body, m, (face, x, y), step)] += 1
        self.assertGreater(min(seen.values()), 20, seen)

    def ends_on_a_side(self, body, m, end):
        """Whether a way ends on a line of the grid, but not in a place."""
        x, y = end[0] % m, end[1] % m
        lines = [x == 0, y == 0] + ([(x + y) % m == 0] if body.turn == 3 else [])
        return any(lines) and (x, y) != (0, 0)

    def test_ways_through_places(self):
        draw = random.Random(2)
        seen = {"early": 0, "tip": 0, "place": 0, "spot": 0}
        for body in some_bodies():
            for m in (3, 4, 6):
                for x, y in inner_spots(body, m):
                    face = draw.randrange(body.faces)
                    for corner in ((0, 0), (m, 0), (0, m), (m, m), (2 * m, m), (-m, m)):
                        # To a point of the grid, and on beyond it.
                        for many in (1, 2, 3, 4):
                            step = (many * (corner[0] - x), many * (corner[1] - y))
                            if not self.ends_on_a_side(body, m, (x + step[0], y + step[1])):
                                seen[self.check(body, m, (face, x, y), step)] += 1
        self.assertGreater(min(seen.values()), 200, seen)

    def test_no_step_at_all(self):
        for body in some_bodies():
            told = straight(body, 3, (0, 1, 1), (0, 0))
            self.assertEqual((told.early, told.place, told.spot, told.turns), (False, None, (0, 1, 1), 0))


if __name__ == "__main__":
    unittest.main()
