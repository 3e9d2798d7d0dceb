"""Boxes of unit squares."""

import itertools
import unittest

from plain import ODD_VALUES, raised
from rimsewn.bodies import Body
from rimsewn.boxes import box, boxes_of
from rimsewn.codes import alike_by_faces
from rimsewn.roads import squares
from rimsewn.turnings import mirrors, turnings

SIDES = [(a, b, c) for a in range(1, 7) for b in range(1, 7) for c in range(1, 7) if 2 * (a * b + b * c + c * a) <= 24]


class BoxesTest(unittest.TestCase):
    def test_faces_and_tips(self):
        self.assertEqual(len(SIDES), 23)
        for a, b, c in SIDES:
            body = box(a, b, c)
            self.assertIsInstance(body, Body)
            self.assertEqual((body.kind, body.faces), ("square", 2 * (a * b + b * c + c * a)))
            self.assertEqual(body.tally, (0, 0, 8))

    def test_sides_in_any_order(self):
        for sides in SIDES:
            least = box(*sorted(sides))
            for order in itertools.permutations(sides):
                self.assertTrue(alike_by_faces(box(*order), least))
                self.assertTrue(alike_by_faces(box(*order), least, True))
        told = {str(sorted(sides)): box(*sorted(sides)) for sides in SIDES}
        for one, other in itertools.combinations(list(told.values()), 2):
            self.assertFalse(alike_by_faces(one, other))

    def test_turnings(self):
        for sides in SIDES:
            many = {1: 24, 2: 8, 3: 4}[len(set(sides))]
            self.assertEqual((len(turnings(box(*sides))), len(mirrors(box(*sides)))), (many, many))

    def test_roads_between_the_corners(self):
        # From a corner one edge, and over one flat side, are the shortest ways to six of the others.
        for a, b, c in SIDES:
            body = box(a, b, c)
            table = squares(body)
            right = sorted([a * a, b * b, c * c, a * a + b * b, b * b + c * c, c * c + a * a,
                            min((a + b) ** 2 + c * c, (b + c) ** 2 + a * a, (c + a) ** 2 + b * b)])
            for tip in body.tips:
                self.assertEqual(sorted(table[tip][other] for other in body.tips if other != tip), right)

    def test_boxes_of(self):
        for faces in range(1, 25):
            right = sorted({tuple(sorted(sides)) for sides in itertools.product(range(1, 25), repeat=3)
                            if 2 * (sides[0] * sides[1] + sides[1] * sides[2] + sides[2] * sides[0]) == faces})
            self.assertEqual(boxes_of(faces), tuple(right))
            self.assertIsInstance(boxes_of(faces), tuple)
            for sides in boxes_of(faces):
                self.assertEqual(box(*sides).faces, faces)

    def test_what_is_refused_in_order(self):
        for value in ODD_VALUES + (0, -1, "1", 1.0, [1]):
            self.assertEqual(raised(box, value, None, None), ("BadNumber", "a"))
            self.assertEqual(raised(box, 1, value, None), ("BadNumber", "b"))
            self.assertEqual(raised(box, 10 ** 30, 10 ** 30, value), ("BadNumber", "c"))
        for sides in ((1, 1, 6), (3, 2, 2), (1, 2, 4), (10 ** 30, 1, 1), (2, 3, 2)):
            self.assertEqual(raised(box, *sides), ("TooMany", "faces", 24))
        self.assertIsNone(raised(box, 2, 2, 2))
        for value in ODD_VALUES + (0, 25, -1, "6", 6.0, [6], 10 ** 30):
            self.assertEqual(raised(boxes_of, value), ("BadNumber", "faces"))


if __name__ == "__main__":
    unittest.main()
