"""Names of bodies: boxes, plates, others."""

import random
import time
import unittest

from drawn import drawn_body, shuffled
from plain import ODD_VALUES, raised
from rimsewn.bodies import Body
from rimsewn.boxes import box, boxes_of
from rimsewn.cells import sheet_of
from rimsewn.check_truth import shows_truth
from rimsewn.listed import bodies_of
from rimsewn.named import Boxed, Other, named
from rimsewn.overlays import Apart, places_on
from rimsewn.plates import NoPlate, Plate, doubled, plate
from rimsewn.sheets import Sheet

TETRA = Body.read("triangle 4 : 0 3 / 1 6 / 2 9 / 4 11 / 5 7 / 8 10")


class NamedTest(unittest.TestCase):
    def test_boxes_renamed_and_mirrored(self):
        draw = random.Random(1)
        for sides in ((1, 1, 1), (1, 1, 2), (1, 2, 2), (1, 1, 5), (1, 2, 3), (2, 2, 2), (1, 1, 4)):
            for order in (sides, sides[::-1]):
                for body in (box(*order), shuffled(box(*order), draw), shuffled(box(*order).mirrored(), draw)):
                    paper = named(body)
                    self.assertIsInstance(paper, Boxed)
                    self.assertEqual(paper.sides, sides)
                    self.assertEqual(paper.parts, (paper.sides, paper.overlay))
                    self.assertTrue(shows_truth(body, box(*sides), False, paper.overlay))
                    goal = places_on(body, box(*sides), paper.overlay)
                    self.assertEqual(sorted(goal[tip] for tip in body.tips), list(box(*sides).tips))

    def test_plates(self):
        for sheet in (Sheet.single("square"), Sheet.single("triangle"), sheet_of("square", [(0, 0), (1, 0), (2, 0)]),
                      sheet_of("square", [(x, y) for x in range(5) for y in range(1)]), sheet_of("triangle", [(0, 0, 0), (0, 0, 1)])):
            body = shuffled(doubled(sheet), random.Random(2))
            paper = named(body)
            self.assertIsInstance(paper, Plate)
            goal = places_on(body, body, paper.overlay, True)
            self.assertEqual([goal[tip] for tip in body.tips], list(body.tips))
        # As many faces as a box has.
        strip = doubled(sheet_of("square", [(x, 0) for x in range(5)]))
        self.assertEqual((len(boxes_of(strip.faces)), named(strip).word), (1, "plate"))

    def test_others(self):
        seen = {0: 0, 1: 0, 2: 0}
        bodies = [TETRA] + [drawn_body("square", faces, seed) for faces in (4, 6, 10, 22) for seed in range(8)]
        bodies += [drawn_body("triangle", faces, seed) for faces in (6, 10, 22) for seed in range(3)]
        for body in bodies:
            paper = named(body)
            if paper:
                continue
            self.assertIsInstance(paper, Other)
            triples = boxes_of(body.faces) if body.kind == "square" else ()
            self.assertEqual(len(paper.aparts), len(triples))
            for sides, apart in zip(triples, paper.aparts):
                self.assertIsInstance(apart, Apart)
                self.assertTrue(shows_truth(body, box(*sides), False, apart))
            self.assertIsInstance(paper.noplate, NoPlate)
            self.assertTrue(paper.noplate == plate(body))
            seen[len(triples)] += 1
        self.assertGreater(min(seen.values()), 2)

    def test_all_bodies_of_few_faces(self):
        for kind, faces in (("square", 2), ("square", 4), ("triangle", 4), ("triangle", 6)):
            for body in bodies_of(kind, faces):
                word = "plate" if plate(body) else "other"
                self.assertEqual(named(body).word, word)
                self.assertTrue(named(body) == named(body))

    def test_bodies_of_24_faces(self):
        begin = time.perf_counter()
        self.assertEqual(boxes_of(24), ((2, 2, 2),))
        for kind in ("square", "triangle"):
            for seed in range(6):
                self.assertIn(named(drawn_body(kind, 24, seed)).word, ("plate", "other"))
        self.assertLess(time.perf_counter() - begin, 30)

    def test_no_body(self):
        for value in ODD_VALUES + (TETRA.skin, str(TETRA), (1, 1, 1)):
            self.assertEqual(raised(named, value), ("BadBody", "body"))


if __name__ == "__main__":
    unittest.main()
