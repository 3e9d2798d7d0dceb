"""Numbers of trees, and of sets that hang the faces: against all sets of seams of small bodies."""

import itertools
import random
import time
import unittest

from drawn import drawn_body, shuffled
from plain import ODD_VALUES, raised
from plain_cuts import hangs, plain_leads, plain_reached, plain_ring
from rimsewn.bodies import Body
from rimsewn.boxes import box
from rimsewn.cells import sheet_of
from rimsewn.finer import finer
from rimsewn.listed import bodies_of
from rimsewn.plates import doubled
from rimsewn.skins import Skin
from rimsewn.treecounts import hanging, spanning, spanning_with

PILLOW = Body.read("square 2 : 0 4 / 1 7 / 2 6 / 3 5")


def plain_spanning(body):
    """All trees that reach all places."""
    leads = plain_leads(body)
    many = len(body.places) - 1
    return [seams for seams in itertools.combinations(range(len(leads)), many)
            if len(plain_reached([leads[seam] for seam in seams])) == many + 1
            and not plain_ring([leads[seam] for seam in seams], many + 1)]


def octahedron():
    """The body of eight triangles, four at each of six places."""
    ring = "abcd"
    faces = [(ring[k - 1], ring[k], "n") for k in range(4)] + [(ring[k], ring[k - 1], "s") for k in range(4)]
    side_from = {(face[k], face[(k + 1) % 3]): 3 * at + k for at, face in enumerate(faces) for k in range(3)}
    seams = [(side, side_from[(end, begin)]) for (begin, end), side in side_from.items() if side < side_from[(end, begin)]]
    return Body(Skin("triangle", 8, seams))


def small_bodies():
    draw = random.Random(1)
    for kind, faces in (("square", 1), ("square", 2), ("square", 3), ("triangle", 2), ("triangle", 4), ("triangle", 6)):
        for body in bodies_of(kind, faces)[:12]:
            yield shuffled(body, draw)
    yield from bodies_of("square", 4)[::6]


class TreesTest(unittest.TestCase):
    def test_against_all_sets_of_seams(self):
        for body in small_bodies():
            trees = plain_spanning(body)
            self.assertEqual(spanning(body), len(trees))
            numbers = range(len(body.skin.seams))
            self.assertEqual(hanging(body), sum(hangs(body, seams) for seams in itertools.combinations(numbers, body.faces - 1)))
            for seam in numbers:
                self.assertEqual(spanning_with(body, seam), sum(seam in seams for seams in trees))

    def test_one_face(self):
        for body in bodies_of("square", 1):
            self.assertEqual((hanging(body), spanning(body)), (1, 1))
            self.assertEqual([spanning_with(body, seam) for seam in (0, 1)], [1, 1])

    def test_a_seam_from_a_place_to_itself(self):
        # A seam from a place to itself is in no tree; one that alone leads to a place is in each.
        body = Body.read("triangle 2 : 0 1 / 2 3 / 4 5")
        self.assertEqual([spanning_with(body, seam) for seam in (0, 1, 2)], [1, 0, 1])
        self.assertEqual((spanning(body), hanging(body)), (1, 1))

    def test_numbers_with_a_seam_added_up(self):
        for kind in ("square", "triangle"):
            for faces in (2, 6, 12, 18, 24):
                for seed in range(3):
                    body = drawn_body(kind, faces, seed)
                    many = spanning(body)
                    self.assertGreater(many, 0)
                    self.assertEqual(hanging(body), many)
                    total = sum(spanning_with(body, seam) for seam in range(len(body.skin.seams)))
                    self.assertEqual(total, many * (len(body.places) - 1))
                    self.assertEqual(spanning(body.mirrored()), many)

    def test_known_numbers(self):
        self.assertEqual(spanning(box(1, 1, 1)), 384)
        self.assertEqual(spanning(octahedron()), 384)
        self.assertEqual(spanning(doubled(sheet_of("square", [(0, 0)]))), 4)

    def test_bodies_of_24_faces_in_a_short_time(self):
        begin = time.perf_counter()
        for body in (Body(finer(box(1, 1, 1).skin)), box(2, 2, 2), drawn_body("square", 24, 9), drawn_body("triangle", 24, 9)):
            self.assertEqual(spanning(body), hanging(body))
            for seam in range(len(body.skin.seams)):
                self.assertLessEqual(spanning_with(body, seam), spanning(body))
        self.assertLess(time.perf_counter() - begin, 10)

    def test_no_seam(self):
        for body in (PILLOW, drawn_body("triangle", 6, 1)):
            many = len(body.skin.seams)
            for value in (None, True, False, -1, 1.0, "0", [], (0,), {}, object(), many, many + 1, 10 ** 30):
                self.assertEqual(raised(spanning_with, body, value), ("BadNumber", "seam"))
            self.assertIsNone(raised(spanning_with, body, many - 1))

    def test_no_body(self):
        for value in ODD_VALUES + (PILLOW.skin, str(PILLOW)):
            for asked in (spanning, hanging):
                self.assertEqual(raised(asked, value), ("BadBody", "body"))
            self.assertEqual(raised(spanning_with, value, None), ("BadBody", "body"))


if __name__ == "__main__":
    unittest.main()
