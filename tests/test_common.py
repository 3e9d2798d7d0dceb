"""Sheets of bodies and common sheets: against all cuts of small bodies."""

import random
import unittest

from drawn import drawn_body, shuffled
from plain import ODD_VALUES, raised
from plain_cuts import plain_cuts, plain_ends
from plain_sheets import plain_made, plain_sheet_code, renames_skins
from rimsewn.bodies import Body, sewn
from rimsewn.boxes import box
from rimsewn.codes import code_of
from rimsewn.common import Common, NoCommon, common_codes, common_sheet, sheets_of
from rimsewn.cuts import Cut, idle
from rimsewn.listed import bodies_of
from rimsewn.nestings import Nesting
from rimsewn.opened import opened
from rimsewn.sheets import Sheet

LOW = Body.read("triangle 6 : 0 1 / 2 3 / 4 6 / 5 7 / 8 9 / 10 12 / 11 13 / 14 15 / 16 17")
HIGH = Body.read("triangle 6 : 0 1 / 2 3 / 4 6 / 5 9 / 7 11 / 8 12 / 10 14 / 13 15 / 16 17")
SQUARE = Sheet.single("square")
DOMINO = SQUARE.put_on(2)


def small_bodies():
    draw = random.Random(1)
    for kind, faces in (("square", 1), ("square", 2), ("square", 3), ("triangle", 2), ("triangle", 4)):
        for body in bodies_of(kind, faces):
            yield shuffled(body, draw)
    yield from bodies_of("square", 4)[::3]
    yield from (LOW, HIGH)


def plain_sheets_of(body):
    """The codes of the sheets of all cuts without idle ends."""
    return tuple(sorted({plain_sheet_code(opened(Cut(body, seams))) for seams in plain_cuts(body)
                         if not set(plain_ends(body, seams)) - set(body.tips)}))


class SheetsOfTest(unittest.TestCase):
    def test_against_all_cuts(self):
        for body in small_bodies():
            told = sheets_of(body)
            self.assertEqual(told, plain_sheets_of(body))
            self.assertEqual(told, sheets_of(shuffled(body, random.Random(2))))

    def test_each_of_them_makes_the_body(self):
        for body in list(small_bodies())[:14]:
            for seams in plain_cuts(body):
                cut = Cut(body, seams)
                self.assertIn(code_of(body), plain_made(opened(cut)))
                if not idle(cut):
                    self.assertIn(plain_sheet_code(opened(cut)), sheets_of(body))

    def test_twelve_seams_and_more(self):
        # The 384 trees of a cube are 11 sheets, 9 of them with another mirrored one.
        self.assertEqual(len(sheets_of(box(1, 1, 1))), 20)
        self.assertEqual(raised(sheets_of, drawn_body("square", 7, 1)), ("TooMany", "seams", 12))
        self.assertEqual(raised(sheets_of, drawn_body("triangle", 10, 1)), ("TooMany", "seams", 12))
        self.assertIsNone(raised(sheets_of, drawn_body("triangle", 8, 1)))

    def test_no_body(self):
        for value in ODD_VALUES + (LOW.skin, str(LOW), SQUARE):
            self.assertEqual(raised(sheets_of, value), ("BadBody", "body"))


class CommonTest(unittest.TestCase):
    def told_well(self, one, other, paper):
        """Checks a Common by the words of the document."""
        self.assertIsInstance(paper, Common)
        self.assertEqual(paper.parts, (paper.one, paper.other, paper.sides))
        cuts = (Cut(one, paper.one), Cut(other, paper.other))
        for cut, seams in zip(cuts, paper.parts):
            self.assertEqual(cut.seams, seams)
            self.assertEqual(idle(cut), ())
        self.assertTrue(renames_skins(opened(cuts[0]).skin, opened(cuts[1]).skin, paper.sides))

    def test_all_pairs(self):
        counts = {True: 0, False: 0}
        bodies = list(small_bodies())
        codes = {str(body): plain_sheets_of(body) for body in bodies}
        for one in bodies:
            for other in bodies:
                if one.kind != other.kind:
                    continue
                shared = tuple(code for code in codes[str(one)] if code in codes[str(other)])
                self.assertEqual(common_codes(one, other), shared)
                paper = common_sheet(one, other)
                self.assertIs(bool(paper), bool(shared))
                counts[bool(shared)] += 1
                if paper:
                    self.told_well(one, other, paper)
                    self.assertIn(plain_sheet_code(opened(Cut(one, paper.one))), shared)
                else:
                    self.assertIsInstance(paper, NoCommon)
                    self.assertEqual(paper.parts, (codes[str(one)], codes[str(other)]))
                    self.assertEqual((paper.ones, paper.others), paper.parts)
                self.assertTrue(common_sheet(one, other) == paper)
        self.assertGreater(min(counts.values()), 30)

    def test_bodies_of_as_many_faces_without_one(self):
        self.assertEqual(common_sheet(LOW, HIGH).word, "nocommon")
        self.assertEqual((len(sheets_of(LOW)), len(sheets_of(HIGH))), (3, 5))

    def test_bodies_of_one_sheet_have_a_common_one(self):
        for sheet in (DOMINO, DOMINO.put_on(4), DOMINO.put_on(1), Sheet.read("triangle 4 : 0 3 / 1 6 / 2 9")):
            if len(sheet) % 2:
                continue
            bodies = [sewn(sheet, Nesting(rows[0])) for rows in plain_made(sheet).values()]
            for one in bodies:
                for other in bodies:
                    self.told_well(one, other, common_sheet(one, other))

    def test_a_sheet_apart_from_its_mirrored_one(self):
        # A body of five squares and its mirrored one, of which no sheets are alike, or some.
        seen = {True: 0, False: 0}
        for seed in range(40):
            body = drawn_body("square", 5, seed)
            if code_of(body) == code_of(body.mirrored()):
                continue
            paper = common_sheet(body, body.mirrored())
            seen[bool(paper)] += 1
            self.assertIs(bool(paper), bool(set(sheets_of(body)) & set(sheets_of(body.mirrored()))))
        self.assertGreater(sum(seen.values()), 3)

    def test_what_is_refused_in_order(self):
        square, triangle, large = drawn_body("square", 2, 1), drawn_body("triangle", 2, 1), drawn_body("square", 7, 1)
        for asked in (common_sheet, common_codes):
            for value in ODD_VALUES + (square.skin, str(square), DOMINO):
                self.assertEqual(raised(asked, value, None), ("BadBody", "one"))
                self.assertEqual(raised(asked, square, value), ("BadBody", "other"))
            self.assertEqual(raised(asked, large, triangle), ("Misfit", "kind"))
            self.assertEqual(raised(asked, triangle, large), ("Misfit", "kind"))
            self.assertEqual(raised(asked, large, square), ("TooMany", "seams", 12))
            self.assertEqual(raised(asked, square, large), ("TooMany", "seams", 12))
            self.assertIsNone(raised(asked, square, drawn_body("square", 6, 1)))


if __name__ == "__main__":
    unittest.main()
