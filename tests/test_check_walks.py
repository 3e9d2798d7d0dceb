"""Whether a value shows how a walk goes, or which walk is a road: right papers, and bent ones."""

import unittest

from drawn import drawn_body
from plain import ODD_VALUES, raised
from plain_walks import plain_walk
from rimsewn.bodies import Body
from rimsewn.boxes import box
from rimsewn.check_walks import shows_road, shows_walk
from rimsewn.listed import bodies_of
from rimsewn.papers import Denial, Paper
from rimsewn.roads import Road, road, squares
from rimsewn.skins import Skin
from rimsewn.vectors import square_of
from rimsewn.walks import Came, Ended, walked

CAP = Body(Skin("square", 1, [(0, 1), (2, 3)]))


class Came2(Came):
    """A class below that of the right papers."""


class Ended2(Ended):
    """A class below that of the right papers."""


class Road2(Road):
    """A class below that of the right papers."""


def some_bodies():
    for kind, faces in (("square", 1), ("square", 2), ("triangle", 2), ("triangle", 4)):
        yield from bodies_of(kind, faces)
    yield drawn_body("square", 6, 1)
    yield drawn_body("triangle", 12, 1)


class WalkTest(unittest.TestCase):
    def test_right_and_bent_papers(self):
        words = {"came": 0, "ended": 0}
        for body in some_bodies():
            for corner in range(min(body.skin.sides, 8)):
                for a, b in ((1, 0), (1, 1), (3, 0), (2, 2), (3, 2), (2, 5), (4, 2)):
                    right = plain_walk(body, corner, a, b)
                    words[right[0]] += 1
                    if right[0] == "came":
                        place, back, sides = right[1:]
                        good = [Came(place, back, sides), Came(place, back, list(sides))]
                        bad = [Came(place + 1, back, sides), Came(place, back + 1, sides), Came(place, back - 1, sides), Came(place, back, sides + (0,)),
                               Came(place, back, sides[1:] if sides else (0,)), Came(place, back, sides[::-1] if sides != sides[::-1] else None),
                               Came(None, back, sides), Came(place, str(back), sides), Came(place, back, None), Came(place, back, (sides,)),
                               Came(float(place), back, sides), Came(place, back, tuple(map(float, sides)) or 0), Came2(place, back, sides),
                               Ended(place, 1), Ended(place, max(1, a)), Paper("came", place, back, sides), Denial("came", place, back, sides)]
                        if sides:
                            bad += [Came(place, back, sides[:-1]), Came(place, back, sides[:-1] + (sides[-1] + 1,))]
                    else:
                        place, part = right[1:]
                        good = [Ended(place, part)]
                        bad = [Ended(place + 1, part), Ended(place, part + 1), Ended(place, part - 1), Ended(place, None), Ended(None, part),
                               Ended(place, float(part)), Ended2(place, part), Denial("ended", place, part), Paper("ended", place, part),
                               Came(place, corner, ()), walked(body, corner, 1, 0)]
                    for value in good:
                        self.assertIs(shows_walk(body, corner, a, b, value), True)
                    for value in bad:
                        self.assertIs(shows_walk(body, corner, a, b, value), False, (value.word, value.parts, right))
        self.assertGreater(min(words.values()), 50)

    def test_true_and_false_are_no_numbers(self):
        self.assertTrue(walked(CAP, 1, 2, 0) == Ended(0, 1))
        self.assertIs(shows_walk(CAP, 1, 2, 0, Ended(0, 1)), True)
        self.assertIs(shows_walk(CAP, 1, 2, 0, Ended(False, 1)), False)
        self.assertIs(shows_walk(CAP, 1, 2, 0, Ended(0, True)), False)
        self.assertEqual(walked(CAP, 1, 2, 1).parts, (0, 2, (2,)))
        self.assertIs(shows_walk(CAP, 1, 2, 1, Came(0, 2, [2])), True)
        self.assertIs(shows_walk(CAP, 1, 2, 1, Came(False, 2, [2])), False)
        self.assertEqual(walked(CAP, 2, 2, 1).parts, (1, 1, (3,)))
        self.assertIs(shows_walk(CAP, 2, 2, 1, Came(True, 1, [3])), False)
        self.assertIs(shows_walk(CAP, 2, 2, 1, Came(1, True, [3])), False)

    def test_other_values(self):
        for value in ODD_VALUES + ((0, 2, (2,)), Came, Road(1, 2, 1)):
            self.assertIs(shows_walk(CAP, 1, 2, 1, value), False)
        for value in ODD_VALUES:
            self.assertIs(shows_walk(CAP, 1, 2, 1, Came(value, value, value)), False)
            self.assertIs(shows_walk(CAP, 1, 2, 0, Ended(value, value)), False)
            self.assertIs(shows_walk(CAP, 1, 2, 1, Came(0, 2, value)), False)

    def test_what_is_refused_in_order(self):
        for value in ODD_VALUES + (CAP.skin, str(CAP)):
            self.assertEqual(raised(shows_walk, value, None, None, None, None), ("BadBody", "body"))
            if value != 0 or isinstance(value, bool):
                self.assertEqual(raised(shows_walk, CAP, value, None, None, None), ("NoSide", value))
            self.assertEqual(raised(shows_walk, CAP, 0, value, None, None), ("BadNumber", "a"))
            if value != 0 or isinstance(value, bool):
                self.assertEqual(raised(shows_walk, CAP, 0, 20, value, None), ("BadNumber", "b"))
        self.assertEqual(raised(shows_walk, CAP, 0, 21, 0, None), ("BadNumber", "a"))
        self.assertEqual(raised(shows_walk, CAP, 0, 20, 1, None), ("TooMany", "square", 400))


class RoadTest(unittest.TestCase):
    def test_all_walks(self):
        counts = {True: 0, False: 0}
        others = 0
        for body in some_bodies():
            table = squares(body)
            for one in range(len(body.places)):
                for other in range(len(body.places)):
                    if one == other:
                        continue
                    first = road(body, one, other)
                    for corner in range(min(body.skin.sides, 16)):
                        for a, b in ((1, 0), (1, 1), (2, 0), (2, 1), (1, 2), (3, 1), (2, 2), (3, 0)):
                            came = plain_walk(body, corner, a, b)
                            right = (body.place_of(corner) == one and came[:2] == ("came", other)
                                     and square_of(body.kind, (a, b)) == table[one][other])
                            told = shows_road(body, one, other, Road(corner, a, b))
                            self.assertIs(told, right)
                            counts[told] += 1
                            others += told and first.parts != (corner, a, b)
        self.assertGreater(min(counts.values()), 100)
        self.assertGreater(others, 20)

    def test_roads_of_great_bodies(self):
        for body in (box(2, 2, 2), drawn_body("square", 24, 2), drawn_body("triangle", 24, 2)):
            last = len(body.places) - 1
            for one, other in ((0, last), (last, 0), (1, last - 1), (2, 3)):
                paper = road(body, one, other)
                self.assertIs(shows_road(body, one, other, paper), True)
                self.assertIs(shows_road(body, other, one, paper), False)

    def test_walks_that_are_no_roads(self):
        pillow = Body(Skin("square", 2, [(0, 4), (1, 7), (2, 6), (3, 5)]))
        # It comes, but a walk of a lesser square comes, too.
        self.assertEqual(walked(pillow, 0, 2, 1).place, 3)
        self.assertIs(shows_road(pillow, 0, 3, Road(0, 2, 1)), False)
        right = road(pillow, 0, 3)
        self.assertEqual((right.a, right.b), (1, 0))
        self.assertIs(shows_road(pillow, 0, 3, right), True)
        # From another place, to another place, ended, beyond all bounds.
        for parts in ((1, 1, 0), (0, 1, 0), (0, 2, 0), (0, 1, 1), (0, 0, 1), (0, 1, -1), (0, 21, 0), (0, 20, 20), (8, 1, 0), (-1, 1, 0),
                      (0, 10 ** 30, 0), (None, 1, 0), (0, None, 0), (0, 1, None), (float(right.corner), 1, 0), (str(right.corner), 1, 0),
                      (right.corner, True, 0), (right.corner, 1, False), (right.corner, 1.0, 0), (right.corner, 2, 0)):
            self.assertIs(shows_road(pillow, 0, 3, Road(*parts)), False, parts)
        for value in ODD_VALUES + (right.parts, Road2(*right.parts), Paper("road", *right.parts), Came(*right.parts), Road):
            self.assertIs(shows_road(pillow, 0, 3, value), False)

    def test_what_is_refused_in_order(self):
        for value in ODD_VALUES + (CAP.skin, str(CAP)):
            self.assertEqual(raised(shows_road, value, None, None, None), ("BadBody", "body"))
            if value != 0 or isinstance(value, bool):
                self.assertEqual(raised(shows_road, CAP, value, None, None), ("NoPlace", value))
                self.assertEqual(raised(shows_road, CAP, 2, value, None), ("NoPlace", value))
        self.assertEqual(raised(shows_road, CAP, 1, 1, None), ("Twice", 1))
        self.assertEqual(raised(shows_road, CAP, 4, 4, None), ("NoPlace", 4))


if __name__ == "__main__":
    unittest.main()
