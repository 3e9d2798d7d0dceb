"""Walks, against faces laid out in the plane along the line."""

import random
import unittest
from math import gcd

from drawn import drawn_body
from plain import ODD_VALUES, raised
from plain_walks import plain_walk
from rimsewn.bodies import Body
from rimsewn.boxes import box
from rimsewn.listed import bodies_of
from rimsewn.skins import Skin
from rimsewn.vectors import square_of
from rimsewn.walks import Came, Ended, walked

CAP = Body(Skin("square", 1, [(0, 1), (2, 3)]))


def some_bodies():
    """Bodies of few faces, and some greater ones."""
    for kind, faces in (("square", 1), ("square", 2), ("square", 3), ("triangle", 2), ("triangle", 4), ("triangle", 6)):
        yield from bodies_of(kind, faces)
    for kind in ("square", "triangle"):
        for faces in (8, 16, 24):
            yield drawn_body(kind, faces, 3)
    yield box(1, 2, 3)
    yield box(2, 2, 2)


def told(body, corner, a, b):
    paper = walked(body, corner, a, b)
    return (paper.word,) + paper.parts


class WalksTest(unittest.TestCase):
    def test_short_walks(self):
        words = {"came": 0, "ended": 0}
        for body in some_bodies():
            for corner in range(min(body.skin.sides, 16)):
                for a in range(1, 5):
                    for b in range(5):
                        right = plain_walk(body, corner, a, b)
                        self.assertEqual(told(body, corner, a, b), right)
                        words[right[0]] += 1
        self.assertGreater(min(words.values()), 500)

    def test_long_walks(self):
        draw = random.Random(1)
        words = {"came": 0, "ended": 0}
        for body in list(some_bodies()):
            for _ in range(25):
                corner, a, b = draw.randrange(body.skin.sides), draw.randrange(1, 21), draw.randrange(21)
                if square_of(body.kind, (a, b)) <= 400:
                    right = plain_walk(body, corner, a, b)
                    self.assertEqual(told(body, corner, a, b), right)
                    words[right[0]] += 1
        self.assertGreater(min(words.values()), 30)

    def test_walks_over_flat_places(self):
        passed = 0
        for body in (drawn_body("square", 24, 5), drawn_body("triangle", 24, 5), drawn_body("square", 12, 1), box(2, 2, 2)):
            for corner in range(body.skin.sides):
                for a, b in ((2, 0), (3, 0), (2, 2), (4, 2), (2, 4), (3, 3), (6, 3), (20, 0)):
                    right = plain_walk(body, corner, a, b)
                    self.assertEqual(told(body, corner, a, b), right)
                    passed += right[0] == "came" or right[2] > 1
        self.assertGreater(passed, 200)

    def test_where_a_walk_ends(self):
        for body in some_bodies():
            for corner in range(body.skin.sides):
                for a, b in ((1, 0), (1, 1), (2, 1)):
                    first = walked(body, corner, a, b)
                    # Of one part alone each walk comes, to a tip or not.
                    self.assertIsInstance(first, Came)
                    for many in range(2, 6):
                        paper = walked(body, corner, many * a, many * b)
                        if first.place in body.tips:
                            self.assertTrue(paper == Ended(first.place, 1))
                        if isinstance(paper, Ended):
                            self.assertIn(paper.place, body.tips)
                            ahead = walked(body, corner, paper.part * a, paper.part * b)
                            self.assertEqual((ahead.word, ahead.place), ("came", paper.place))
                            self.assertLess(paper.part, many)
                        else:
                            ahead = walked(body, corner, (many - 1) * a, (many - 1) * b)
                            self.assertIsInstance(ahead, Came)
                            self.assertNotIn(ahead.place, body.tips)
                            self.assertEqual(paper.sides[:len(ahead.sides)], ahead.sides)

    def test_back_again(self):
        draw = random.Random(2)
        seen = 0
        for body in some_bodies():
            for _ in range(40):
                corner, a, b = draw.randrange(body.skin.sides), draw.randrange(1, 9), draw.randrange(9)
                there = walked(body, corner, a, b)
                if not there:
                    continue
                seen += 1
                self.assertEqual(body.place_of(there.corner), there.place)
                again = walked(body, there.corner, a, b)
                self.assertEqual((again.word, again.place, again.corner), ("came", body.place_of(corner), corner))
                self.assertEqual(again.sides, tuple(body.skin.mate(side) for side in there.sides[::-1]))
        self.assertGreater(seen, 200)

    def test_how_many_sides_are_left(self):
        for body in some_bodies():
            for a, b in ((1, 1), (2, 1), (5, 3), (1, 4), (3, 0), (20, 0)):
                paper = walked(body, 0, a, b)
                if paper:
                    parts = gcd(a, b)
                    p, q = a // parts, b // parts
                    each = 0 if q == 0 else p + q - 2 if body.kind == "square" else 2 * (p + q) - 3
                    self.assertEqual(len(paper.sides), parts * each)

    def test_numbers_at_their_bounds(self):
        three = bodies_of("triangle", 2)[0]
        for value in ODD_VALUES + (0, 21, -1, "1", [1], 10 ** 30):
            self.assertEqual(raised(walked, CAP, 0, value, None), ("BadNumber", "a"))
        for value in ODD_VALUES + (21, -1, "1", [1], 10 ** 30):
            if value != 0 or isinstance(value, bool):
                self.assertEqual(raised(walked, CAP, 0, 20, value), ("BadNumber", "b"))
        self.assertIsNone(raised(walked, CAP, 0, 20, 0))
        self.assertIsNone(raised(walked, CAP, 0, 1, 19))
        self.assertIsNone(raised(walked, CAP, 0, 12, 16))
        self.assertIsNone(raised(walked, three, 0, 20, 0))
        self.assertIsNone(raised(walked, three, 0, 19, 1))
        for body, a, b in ((CAP, 20, 1), (CAP, 1, 20), (CAP, 16, 13), (CAP, 20, 20), (three, 19, 2), (three, 20, 1), (three, 1, 20),
                           (three, 12, 12)):
            self.assertEqual(raised(walked, body, 0, a, b), ("TooMany", "square", 400))

    def test_squares_of_four_hundred(self):
        for body in some_bodies():
            for a, b in ((20, 0), (12, 16), (16, 12)) if body.kind == "square" else ((20, 0),):
                for corner in range(0, body.skin.sides, 5):
                    self.assertEqual(told(body, corner, a, b), plain_walk(body, corner, a, b))

    def test_what_is_refused_in_order(self):
        for value in ODD_VALUES + (CAP.skin, str(CAP)):
            self.assertEqual(raised(walked, value, None, None, None), ("BadBody", "body"))
            if value != 0 or isinstance(value, bool):
                self.assertEqual(raised(walked, CAP, value, None, None), ("NoSide", value))
        self.assertEqual(raised(walked, CAP, 4, None, None), ("NoSide", 4))
        self.assertEqual(raised(walked, CAP, 3, 30, None), ("BadNumber", "a"))
        self.assertEqual(raised(walked, CAP, 3, 20, -1), ("BadNumber", "b"))
        self.assertEqual(raised(walked, CAP, 3, 20, 20), ("TooMany", "square", 400))


if __name__ == "__main__":
    unittest.main()
