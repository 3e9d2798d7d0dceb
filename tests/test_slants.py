"""Bodies enlarged with a grid aslant, against faces laid out in the plane."""

import unittest
from math import gcd

from drawn import drawn_body
from plain import ODD_VALUES, raised
from plain_layings import frame, plain_straight, second_step, sum_of
from plain_walks import TINY
from rimsewn.bodies import Body
from rimsewn.codes import alike_by_faces, code_of
from rimsewn.finer import finer
from rimsewn.listed import bodies_of
from rimsewn.roads import squares
from rimsewn.skins import Skin
from rimsewn.slants import slanted

CAP = Body(Skin("square", 1, [(0, 1), (2, 3)]))
PAIR = bodies_of("triangle", 2)
VECTORS = {"square": [(1, 0), (2, 0), (2, 1), (1, 2), (3, 0), (3, 2), (2, 3), (4, 1), (1, 4), (4, 2), (2, 4), (4, 0)],
           "triangle": [(1, 0), (2, 0), (2, 1), (1, 2), (3, 0)]}


def corners_of_cell(kind, cell):
    """Where the corners of a cell lie, told by both steps of its grid."""
    x, y = cell[:2]
    if kind == "square":
        return [(x, y), (x + 1, y), (x + 1, y + 1), (x, y + 1)]
    if cell[2] == 0:
        return [(x, y), (x + 1, y), (x, y + 1)]
    return [(x + 1, y + 1), (x, y + 1), (x + 1, y)]


def cells_in_face(body, a, b):
    """The cells whose middles lie in a face, ascending, with their corners as complex numbers in its frame."""
    second = second_step(body)
    step = 1 / (a + b * second)
    reach = range(-a - b - 1, a + b + 2)
    cells = [(x, y) for x in reach for y in reach]
    if body.kind == "triangle":
        cells = [(x, y, half) for x, y in cells for half in (0, 1)]
    placed = frame(body, 0)
    found = []
    for cell in cells:
        points = [(x + y * second) * step for x, y in corners_of_cell(body.kind, cell)]
        middle = sum(points) / len(points)
        hands = [((placed.end(side) - placed.at[side]).conjugate() * (middle - placed.at[side])).imag for side in placed.at]
        if min(hands) > TINY:
            found.append((cell, points, middle))
    return found


def plain_slanted(body, a, b):
    """The seams of the body with a grid aslant: from the middle of each cell straight over each of its sides."""
    cells = cells_in_face(body, a, b)
    assert len(cells) == sum_of(body.kind, (a, b))
    turn, seams = body.turn, set()
    for face in range(body.faces):
        for number, (cell, points, middle) in enumerate(cells):
            for k in range(turn):
                half = (points[k] + points[(k + 1) % turn]) / 2 - middle
                told = plain_straight(body, frame(body, face), middle, middle + 2 * half)
                assert told[0] == "at" and told[2] is None
                placed = told[1]
                side = min(placed.at)
                own = placed.end(side) - placed.at[side]
                goal, back = (middle + 2 * half - placed.at[side]) / own, -half / own
                its = [at for at, row in enumerate(cells) if abs(row[2] - goal) < TINY][0]
                points_there, middle_there = cells[its][1:]
                k_there = [at for at in range(turn) if abs((points_there[at] + points_there[(at + 1) % turn]) / 2 - middle_there - back) < TINY][0]
                one = (face * len(cells) + number) * turn + k
                other = (side // turn * len(cells) + its) * turn + k_there
                seams.add((min(one, other), max(one, other)))
    return tuple(sorted(seams))


def place_of_old(body, slant, a, b, corner):
    """The place of the slanted body where an old corner lies."""
    placed = frame(body, corner // body.turn)
    goal = placed.at[corner]
    cells = cells_in_face(body, a, b)
    for number, (cell, points, middle) in enumerate(cells):
        for k, point in enumerate(points):
            # The way to it from the middle must not lead round another corner.
            if abs(point - goal) < TINY:
                return slant.place_of((corner // body.turn * len(cells) + number) * body.turn + k)
    raise AssertionError("no cell at this corner")


def some_bodies():
    for kind, faces in (("square", 1), ("square", 2), ("square", 3), ("square", 4), ("triangle", 2), ("triangle", 4), ("triangle", 6)):
        yield from bodies_of(kind, faces)
    yield drawn_body("square", 4, 7)
    yield drawn_body("triangle", 8, 7)


def all_slants():
    for body in some_bodies():
        for a, b in VECTORS[body.kind]:
            if body.faces * sum_of(body.kind, (a, b)) <= 24:
                yield body, a, b, slanted(body, a, b)


class SlantsTest(unittest.TestCase):
    def test_against_faces_laid_out(self):
        many = {"square": 0, "triangle": 0}
        for body, a, b, slant in all_slants():
            self.assertIsInstance(slant, Body)
            self.assertEqual((slant.kind, slant.faces), (body.kind, body.faces * sum_of(body.kind, (a, b))))
            self.assertEqual(slant.skin.seams, plain_slanted(body, a, b))
            many[body.kind] += 1
        self.assertGreater(min(many.values()), 8)

    def test_tips_gather_as_before(self):
        for body, a, b, slant in all_slants():
            self.assertEqual(slant.tally, body.tally)
            for place in range(len(body.places)):
                goal = {place_of_old(body, slant, a, b, corner) for corner in body.places[place]}
                self.assertEqual(len(goal), 1)
                self.assertEqual(slant.gathers[min(goal)], body.gathers[place])

    def test_squares_of_roads_between_old_places(self):
        for body, a, b, slant in all_slants():
            goal = [place_of_old(body, slant, a, b, place[0]) for place in body.places]
            own, its = squares(body), squares(slant)
            for one in range(len(goal)):
                self.assertEqual([its[goal[one]][there] for there in goal],
                                 [sum_of(body.kind, (a, b)) * square for square in own[one]])

    def test_straight_grids(self):
        for body in some_bodies():
            self.assertTrue(slanted(body, 1, 0) == body)
            if body.faces <= 6:
                self.assertTrue(alike_by_faces(slanted(body, 2, 0), Body(finer(body.skin))))

    def test_left_and_right(self):
        for body in some_bodies():
            if body.faces * sum_of(body.kind, (2, 1)) > 24:
                continue
            left, right = slanted(body, 2, 1), slanted(body, 1, 2)
            self.assertNotEqual(code_of(left), code_of(right))
            # Mirrored, what is laid aslant to the left is laid aslant to the right.
            self.assertTrue(alike_by_faces(slanted(body.mirrored(), 2, 1), right, True))
            self.assertTrue(alike_by_faces(left, slanted(body.mirrored(), 1, 2), True))

    def test_vectors_by_which_there_is_none(self):
        for kind, body in (("square", CAP), ("triangle", PAIR[0])):
            for a in range(1, 9):
                for b in range(9):
                    parts = gcd(a, b)
                    if kind == "square":
                        none = (a // parts + b // parts) % 2 == 0
                    else:
                        none = (a // parts - b // parts) % 3 == 0
                    square = body.faces * sum_of(kind, (a, b))
                    error = ("BadNumber", "b") if none else ("TooMany", "faces", 24) if square > 24 else None
                    self.assertEqual(raised(slanted, body, a, b), error, (kind, a, b))

    def test_what_is_refused_in_order(self):
        for value in ODD_VALUES + (CAP.skin, str(CAP)):
            self.assertEqual(raised(slanted, value, None, None), ("BadBody", "body"))
        for value in ODD_VALUES + (0, -1, "1", 1.0, [1]):
            self.assertEqual(raised(slanted, CAP, value, None), ("BadNumber", "a"))
        for value in ODD_VALUES + (-1, "1", 1.0, [1]):
            if value != 0 or isinstance(value, bool):
                self.assertEqual(raised(slanted, CAP, 1, value), ("BadNumber", "b"))
        self.assertEqual(raised(slanted, CAP, 10 ** 30, 10 ** 30), ("BadNumber", "b"))
        self.assertEqual(raised(slanted, CAP, 10 ** 30, 1), ("TooMany", "faces", 24))
        self.assertEqual(raised(slanted, CAP, 5, 0), ("TooMany", "faces", 24))
        self.assertIsNone(raised(slanted, CAP, 4, 2))
        self.assertIsNone(raised(slanted, PAIR[0], 3, 0))
        self.assertEqual(raised(slanted, PAIR[0], 3, 1), ("TooMany", "faces", 24))


if __name__ == "__main__":
    unittest.main()
