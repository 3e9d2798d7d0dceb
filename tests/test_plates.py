"""Plates: doubled sheets, and bodies that are laid on themselves so that each tip is kept."""

import random
import time
import unittest

from drawn import drawn_body, drawn_sheet, shuffled
from plain import ODD_VALUES, raised
from plain_layings import plain_failings, plain_starts, plain_tip_walks
from rimsewn.bodies import Body
from rimsewn.boxes import box
from rimsewn.cells import sheet_of
from rimsewn.finer import finer
from rimsewn.listed import bodies_of
from rimsewn.overlays import Overlay, places_on
from rimsewn.plates import NoPlate, Plate, doubled, plate
from rimsewn.roads import squares
from rimsewn.sheets import Sheet
from rimsewn.slants import slanted

TETRA = Body.read("triangle 4 : 0 3 / 1 6 / 2 9 / 4 11 / 5 7 / 8 10")


def own_starts(body, walk):
    """The starts from the place alone where the walk begins."""
    return [start for start in plain_starts(body, body, walk) if body.place_of(start[0]) == body.place_of(walk[0])]


def moved(body, start, walk):
    """The least tip that the overlay of a start does not keep, None if it keeps each."""
    goal = places_on(body, body, Overlay(walk[0], walk[1], start[0], start[1]), True)
    return next((tip for tip in body.tips if goal[tip] != tip), None)


def flat_sheets():
    """Sheets without an amount above half a full round."""
    draw = random.Random(1)
    found = []
    while len(found) < 16:
        kind = draw.choice(["square", "triangle"])
        sheet = drawn_sheet(kind, draw.choice([1, 2, 3, 4, 6, 8, 12]), draw, 1.0)
        if 2 * max(sheet.amounts) <= sheet.skin.full:
            found.append(sheet)
    cells = [(x, y) for x in range(4) for y in range(3)]
    halves = [(0, 0, 0), (0, 0, 1), (1, 0, 0), (0, 1, 0)]
    return found + [sheet_of("square", cells), sheet_of("triangle", halves), sheet_of("square", [(x, 0) for x in range(12)])]


class PlateTest(unittest.TestCase):
    def shown(self, body, paper):
        """Checks a paper by walking the starts."""
        if paper:
            self.assertIsInstance(paper, Plate)
            self.assertEqual(paper.parts, (paper.overlay,))
            goal = places_on(body, body, paper.overlay, True)
            self.assertEqual([goal[tip] for tip in body.tips], list(body.tips))
            return
        self.assertIsInstance(paper, NoPlate)
        walk = (paper.corner, paper.vector)
        self.assertIn(walk, plain_tip_walks(body, 40))
        starts = own_starts(body, walk)
        self.assertIn(walk, starts)
        self.assertEqual(len(paper.failings), len(starts))
        for start, failing in zip(starts, paper.failings):
            right = plain_failings(body, body, True, walk, start)
            if right:
                self.assertIn(failing, right)
            else:
                self.assertEqual(failing, ("kept", moved(body, start, walk)))
                self.assertIsNotNone(failing[1])

    def test_doubled_sheets_are_plates(self):
        for sheet in flat_sheets():
            body = doubled(sheet)
            for its in (body, shuffled(body, random.Random(2)), body.mirrored()):
                paper = plate(its)
                self.assertTrue(paper)
                self.shown(its, paper)

    def test_each_paper_is_shown_by_walking_the_starts(self):
        words = {"plate": 0, "noplate": 0}
        kept = 0
        for kind, faces in (("square", 1), ("square", 2), ("square", 3), ("square", 4), ("triangle", 2), ("triangle", 4), ("triangle", 6)):
            for body in list(bodies_of(kind, faces)) + [drawn_body(kind, 2 * faces, 1)]:
                paper = plate(body)
                words[paper.word] += 1
                self.shown(body, paper)
                self.assertEqual(plate(body).parts, paper.parts)
                kept += not paper and "kept" in [failing[0] for failing in paper.failings]
        for body in (TETRA, box(1, 1, 1), box(1, 1, 2), box(1, 2, 2), slanted(box(1, 1, 1), 2, 0)):
            paper = plate(body)
            self.assertFalse(paper)
            self.shown(body, paper)
            kept += "kept" in [failing[0] for failing in paper.failings]
        self.assertGreater(min(words.values()), 5)
        self.assertGreater(kept, 3)

    def test_bodies_of_three_tips_are_plates(self):
        seen = 0
        for kind, faces in (("square", 1), ("square", 3), ("square", 4), ("triangle", 2), ("triangle", 4), ("triangle", 6)):
            for body in bodies_of(kind, faces):
                if len(body.tips) == 3:
                    seen += 1
                    self.assertTrue(plate(body))
                    self.shown(body, plate(body))
                    if 5 * faces <= 24 and kind == "square":
                        slant = slanted(body, 2, 1)
                        self.assertTrue(plate(slant))
                        self.shown(slant, plate(slant))
        self.assertGreater(seen, 4)

    def test_four_tips_of_half_a_full_round(self):
        # The roads of one tip are the shortest steps of the lattice: a right angle if two squares are the third one.
        counts = {True: 0, False: 0}
        bodies = [TETRA]
        for kind in ("square", "triangle"):
            faces = (2, 3, 4, 6, 8) if kind == "square" else (2, 4, 6, 8, 12)
            bodies += [drawn_body(kind, many, seed) for many in faces for seed in range(60)]
        for body in bodies:
            if len(body.tips) != 4 or set(body.gathers[tip] for tip in body.tips) != {body.full // 2}:
                continue
            table = squares(body)
            first = body.tips[0]
            r, s, t = sorted(table[first][tip] for tip in body.tips[1:])
            for tip in body.tips[1:]:
                rest = [other for other in body.tips[1:] if other != tip]
                self.assertEqual(table[first][tip], table[rest[0]][rest[1]])
            self.assertIs(bool(plate(body)), r + s == t)
            self.shown(body, plate(body))
            counts[r + s == t] += 1
        self.assertGreater(min(counts.values()), 5, counts)

    def test_boxes_are_no_plates(self):
        for sides in ((1, 1, 1), (1, 1, 5), (1, 2, 3), (2, 2, 2)):
            self.assertFalse(plate(box(*sides)))
        # Eight tips of three quarters can be those of a plate, too.
        cells = [(x, y) for x in range(4) for y in range(3) if (x, y) not in ((0, 0), (3, 0), (0, 2), (3, 2))]
        self.assertEqual(raised(doubled, sheet_of("square", cells))[0], "TooMuch")

    def test_finer_bodies(self):
        for kind, faces in (("square", 2), ("square", 4), ("triangle", 4), ("triangle", 6)):
            for body in bodies_of(kind, faces):
                self.assertIs(bool(plate(Body(finer(body.skin)))), bool(plate(body)))

    def test_bodies_of_24_faces(self):
        begin = time.perf_counter()
        for kind in ("square", "triangle"):
            for seed in range(8):
                body = drawn_body(kind, 24, seed)
                self.assertEqual(bool(plate(body)), bool(plate(body.mirrored())))
        self.assertLess(time.perf_counter() - begin, 30)

    def test_no_body(self):
        for value in ODD_VALUES + (TETRA.skin, str(TETRA), Sheet.single("square")):
            self.assertEqual(raised(plate, value), ("BadBody", "body"))


class DoubledTest(unittest.TestCase):
    def test_how_faces_are_numbered(self):
        for sheet in flat_sheets():
            body = doubled(sheet)
            self.assertIsInstance(body, Body)
            self.assertEqual(body.faces, 2 * sheet.faces)
            sides, turn = sheet.skin.sides, sheet.skin.turn
            behind = [sides + side // turn * turn + turn - 1 - side % turn for side in range(sides)]
            for side in range(sides):
                mate = sheet.skin.mate(side)
                self.assertEqual(body.skin.mate(side), behind[side] if mate is None else mate)
                self.assertEqual(body.skin.mate(behind[side]), side if mate is None else behind[mate])
            # At the place of a rim corner twice its amount gathers.
            for edge, amount in enumerate(sheet.amounts):
                self.assertEqual(body.gathers[body.place_of(sheet.rim[edge])], 2 * amount)

    def test_refused_amounts(self):
        draw = random.Random(5)
        seen = 0
        for _ in range(80):
            sheet = drawn_sheet(draw.choice(["square", "triangle"]), draw.randrange(1, 18), draw)
            above = [corner for corner, amount in enumerate(sheet.amounts) if 2 * amount > sheet.skin.full]
            if above:
                seen += 1
                self.assertEqual(raised(doubled, sheet), ("TooMuch", above[0]))
            else:
                self.assertEqual(raised(doubled, sheet), ("TooMany", "faces", 24) if sheet.faces > 12 else None)
        self.assertGreater(seen, 30)

    def test_too_many_faces(self):
        strip = sheet_of("square", [(x, 0) for x in range(13)])
        self.assertEqual(raised(doubled, strip), ("TooMany", "faces", 24))
        self.assertEqual(raised(doubled, sheet_of("square", [(x, 0) for x in range(13)] + [(3, 1)]))[0], "TooMuch")
        self.assertIsNone(raised(doubled, sheet_of("square", [(x, 0) for x in range(12)])))
        for value in ODD_VALUES + (strip.skin, str(strip)):
            self.assertEqual(raised(doubled, value), ("BadSheet", "sheet"))


if __name__ == "__main__":
    unittest.main()
