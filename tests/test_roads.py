"""Roads, against all walks of lesser squares."""

import random
import time
import unittest

from drawn import drawn_body, shuffled
from plain import ODD_VALUES, raised
from plain_walks import plain_walk
from rimsewn.bodies import Body
from rimsewn.boxes import box
from rimsewn.codes import alike_by_faces
from rimsewn.finer import finer
from rimsewn.listed import bodies_of
from rimsewn.roads import Road, farthest, road, squares
from rimsewn.skins import Skin
from rimsewn.vectors import square_of
from rimsewn.walks import walked

CAP = Body(Skin("square", 1, [(0, 1), (2, 3)]))


def plain_road(body, one, other):
    """The least square of all plain walks from one to other, and the first of them by corner, then by a."""
    walks = []
    for corner in body.places[one]:
        for a in range(1, 9):
            for b in range(9):
                if square_of(body.kind, (a, b)) <= 64:
                    told = plain_walk(body, corner, a, b)
                    if told[:2] == ("came", other):
                        walks.append((square_of(body.kind, (a, b)), corner, a, b))
    return min(walks)


class RoadsTest(unittest.TestCase):
    def test_against_all_walks(self):
        bodies = [body for kind, faces in (("square", 1), ("square", 2), ("square", 3), ("triangle", 2), ("triangle", 4), ("triangle", 6))
                  for body in bodies_of(kind, faces)] + [drawn_body("square", 5, 1), drawn_body("triangle", 10, 1)]
        corners = 0
        for body in bodies:
            table = squares(body)
            for one in range(len(body.places)):
                for other in range(len(body.places)):
                    if one != other:
                        square, corner, a, b = plain_road(body, one, other)
                        self.assertTrue(road(body, one, other) == Road(corner, a, b))
                        self.assertEqual(table[one][other], square)
                        corners += corner != body.places[one][0]
                    else:
                        self.assertEqual(table[one][other], 0)
        self.assertGreater(corners, 20)

    def test_the_first_by_its_corner_then_by_a(self):
        ties = 0
        for body in (box(1, 1, 1), box(1, 1, 2), drawn_body("square", 6, 2), drawn_body("triangle", 12, 2)):
            for one in range(len(body.places)):
                for other in range(len(body.places)):
                    if one == other:
                        continue
                    told = road(body, one, other)
                    square = square_of(body.kind, (told.a, told.b))
                    right = []
                    for corner in sorted(body.places[one]):
                        for a in range(1, 21):
                            for b in range(21):
                                if square_of(body.kind, (a, b)) == square and walked(body, corner, a, b):
                                    if walked(body, corner, a, b).place == other:
                                        right.append((corner, a, b))
                    self.assertEqual(told.parts, right[0])
                    ties += len(right) > 1
        self.assertGreater(ties, 10)

    def test_there_and_back(self):
        for kind in ("square", "triangle"):
            for faces in (6, 12, 24):
                body = drawn_body(kind, faces, 4)
                table = squares(body)
                for one in range(len(table)):
                    self.assertEqual([row[one] for row in table], list(table[one]))
                for r, s, t in ((table[one][other], table[other][third], table[one][third]) for one in range(len(table))
                                for other in range(one) for third in range(other)):
                    self.assertTrue(r - s - t <= 0 or (r - s - t) ** 2 <= 4 * s * t)

    def test_renamed_and_mirrored_bodies(self):
        draw = random.Random(1)
        for kind in ("square", "triangle"):
            body = drawn_body(kind, 16, 7)
            other = shuffled(body, draw)
            sides = alike_by_faces(body, other).sides
            goal = [other.place_of(sides[place[0]]) for place in body.places]
            one, its, mirrored = squares(body), squares(other), squares(body.mirrored())
            for a in range(len(goal)):
                for b in range(len(goal)):
                    self.assertEqual(one[a][b], its[goal[a]][goal[b]])
            self.assertEqual(sorted(map(sorted, one)), sorted(map(sorted, mirrored)))

    def test_finer_bodies(self):
        for kind, faces in (("square", 1), ("square", 2), ("square", 4), ("triangle", 2), ("triangle", 4), ("triangle", 6)):
            for body in bodies_of(kind, faces):
                fine = Body(finer(body.skin))
                goal = [fine.place_of((4 * body.skin.face(place[0]) + place[0] % body.turn) * body.turn) for place in body.places]
                one, its = squares(body), squares(fine)
                for a in range(len(goal)):
                    self.assertEqual([4 * square for square in one[a]], [its[goal[a]][there] for there in goal])

    def test_farthest(self):
        for kind in ("square", "triangle"):
            for faces in (2, 6, 14, 24):
                body = drawn_body(kind, faces, 9)
                table = squares(body)
                most = max(max(row) for row in table)
                right = [(one, other, most) for one in range(len(table)) for other in range(one + 1, len(table))
                         if table[one][other] == most]
                self.assertEqual(farthest(body), tuple(right))
        self.assertEqual(len(farthest(box(1, 1, 1))), 4)
        self.assertEqual({triple[2] for triple in farthest(box(1, 1, 1))}, {5})
        self.assertEqual({triple[2] for triple in farthest(box(1, 1, 5))}, {29})

    def test_kinds_of_values(self):
        self.assertIsInstance(squares(CAP), tuple)
        self.assertTrue(all(isinstance(row, tuple) for row in squares(CAP)))
        self.assertIsInstance(farthest(CAP), tuple)
        self.assertIsInstance(road(CAP, 0, 1), Road)

    def test_bodies_of_24_faces(self):
        begin = time.perf_counter()
        seen = 0
        for body in (box(2, 2, 2), drawn_body("square", 24, 1), drawn_body("triangle", 24, 1), long_body()):
            table = squares(body)
            seen = max(seen, max(max(row) for row in table))
            self.assertEqual(farthest(body)[0][2], max(max(row) for row in table))
            told = road(body, 0, len(body.places) - 1)
            self.assertEqual(square_of(body.kind, (told.a, told.b)), table[0][-1])
        self.assertGreater(seen, 120)
        self.assertLess(time.perf_counter() - begin, 30)

    def test_what_is_refused_in_order(self):
        for value in ODD_VALUES + (CAP.skin, str(CAP)):
            for ask in (squares, farthest):
                self.assertEqual(raised(ask, value), ("BadBody", "body"))
            self.assertEqual(raised(road, value, None, None), ("BadBody", "body"))
            if value != 0 or isinstance(value, bool):
                self.assertEqual(raised(road, CAP, value, None), ("NoPlace", value))
                self.assertEqual(raised(road, CAP, 2, value), ("NoPlace", value))
        self.assertEqual(raised(road, CAP, 3, 3), ("NoPlace", 3))
        self.assertEqual(raised(road, CAP, 1, 3), ("NoPlace", 3))
        for place in range(3):
            self.assertEqual(raised(road, CAP, place, place), ("Twice", place))


def long_body():
    """A strip of 12 squares, doubled: a long flat body of 24 faces."""
    seams = [(4 * face + 1, 4 * face + 7) for face in range(11)]
    behind = [(48 + 4 * (one // 4) + 3 - one % 4, 48 + 4 * (other // 4) + 3 - other % 4) for one, other in seams]
    used = {side for seam in seams for side in seam}
    rim = [(side, 48 + 4 * (side // 4) + 3 - side % 4) for side in range(48) if side not in used]
    return Body(Skin("square", 24, seams + behind + rim))


if __name__ == "__main__":
    unittest.main()
