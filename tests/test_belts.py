"""Belts of bodies of squares."""

import unittest

from drawn import drawn_body
from plain import ODD_VALUES, raised
from rimsewn.belts import belts
from rimsewn.bodies import Body
from rimsewn.boxes import box
from rimsewn.listed import bodies_of
from rimsewn.skins import Skin

CAP = Body(Skin("square", 1, [(0, 1), (2, 3)]))


def across(side):
    return side // 4 * 4 + (side + 2) % 4


def plain_ways(body):
    """All ways over a body, each the sides by which it leaves faces, from each side on."""
    found = {}
    for first in range(body.skin.sides):
        way, side = [], first
        while side not in way:
            way.append(side)
            side = across(body.skin.mate(side))
        assert side == first
        found[first] = tuple(way)
    return found


def some_bodies():
    for faces in (1, 2, 3, 4):
        yield from bodies_of("square", faces)
    for faces in (5, 8, 13, 24):
        for seed in range(4):
            yield drawn_body("square", faces, seed)


class BeltsTest(unittest.TestCase):
    def test_against_all_ways(self):
        for body in some_bodies():
            ways = plain_ways(body)
            right = set()
            for first, way in ways.items():
                back = tuple(across(side) for side in way)
                least = min(way + back)
                right.add(ways[least])
            self.assertEqual(belts(body), tuple(sorted(right)))

    def test_each_side_is_left_by_one_belt(self):
        for body in some_bodies():
            told = belts(body)
            self.assertIsInstance(told, tuple)
            self.assertTrue(all(isinstance(belt, tuple) for belt in told))
            left = [side for belt in told for side in belt] + [across(side) for belt in told for side in belt]
            self.assertEqual(sorted(left), list(range(body.skin.sides)))
            faces = [side // 4 for belt in told for side in belt]
            self.assertEqual(sorted(faces), sorted(list(range(body.faces)) * 2))
            for belt in told:
                self.assertEqual(belt[0], min(belt + tuple(across(side) for side in belt)))
            self.assertEqual(list(told), sorted(told))

    def test_boxes(self):
        self.assertEqual([len(belt) for belt in belts(box(1, 1, 1))], [4, 4, 4])
        self.assertEqual(sorted(len(belt) for belt in belts(box(1, 2, 3))), [6, 6, 6, 8, 8, 10])
        self.assertEqual(sorted(len(belt) for belt in belts(box(2, 2, 2))), [8] * 6)
        self.assertEqual(sorted(len(belt) for belt in belts(box(1, 1, 5))), [4] * 5 + [12, 12])

    def test_renumbered(self):
        for body in some_bodies():
            order = [(face + 1) % body.faces for face in range(body.faces)]
            other = body.renamed(order, [face % 4 for face in range(body.faces)])
            self.assertEqual(sorted(map(len, belts(other))), sorted(map(len, belts(body))))
            self.assertEqual(sorted(map(len, belts(body.mirrored()))), sorted(map(len, belts(body))))

    def test_what_is_refused_in_order(self):
        for value in ODD_VALUES + (CAP.skin, str(CAP)):
            self.assertEqual(raised(belts, value), ("BadBody", "body"))
        for body in bodies_of("triangle", 2):
            self.assertEqual(raised(belts, body), ("Misfit", "kind"))


if __name__ == "__main__":
    unittest.main()
