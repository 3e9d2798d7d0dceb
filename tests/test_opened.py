"""Bodies opened along cuts, closed again, cut again."""

import random
import unittest

from drawn import drawn_body, drawn_sheet
from plain import ODD_VALUES, corner_places, partner_rows, raised, random_row, sums_of
from plain_cuts import plain_cuts, plain_leads, plain_ring
from rimsewn.bodies import Body, sewn
from rimsewn.cells import lies_flat
from rimsewn.cuts import Cut, cuts, pared
from rimsewn.listed import bodies_of
from rimsewn.nestings import Nesting
from rimsewn.opened import closing, cut_of, opened
from rimsewn.rims import Rim
from rimsewn.sewn import sewings
from rimsewn.sheets import Sheet
from rimsewn.sums import is_sewing

PILLOW = Body.read("square 2 : 0 4 / 1 7 / 2 6 / 3 5")


def drawn_cut(body, draw, paring=0.5):
    """A tree over all places, its seams drawn; sometimes pared."""
    leads = plain_leads(body)
    seams = []
    for seam in draw.sample(range(len(leads)), len(leads)):
        if not plain_ring([leads[at] for at in seams + [seam]], len(body.places)):
            seams.append(seam)
    cut = Cut(body, seams)
    return pared(cut) if draw.random() < paring else cut


def many_cuts():
    """All cuts of small bodies, and drawn ones of larger bodies."""
    draw = random.Random(1)
    for kind, faces in (("square", 1), ("square", 2), ("square", 3), ("triangle", 2), ("triangle", 4)):
        for body in bodies_of(kind, faces):
            for seams in plain_cuts(body):
                yield Cut(body, seams)
    for kind in ("square", "triangle"):
        for faces in (6, 8, 14, 24):
            for seed in range(4):
                yield drawn_cut(drawn_body(kind, faces, seed), draw)


class OpenedTest(unittest.TestCase):
    def test_what_is_opened(self):
        for cut in many_cuts():
            sheet, skin = opened(cut), cut.body.skin
            self.assertIsInstance(sheet, Sheet)
            self.assertEqual((sheet.kind, sheet.faces), (skin.kind, skin.faces))
            kept = [seam for number, seam in enumerate(skin.seams) if number not in cut.seams]
            self.assertEqual(list(sheet.skin.seams), kept)
            self.assertEqual(len(sheet), 2 * len(cut))

    def test_closed_again(self):
        for cut in many_cuts():
            sheet, nesting = opened(cut), closing(cut)
            self.assertIsInstance(nesting, Nesting)
            for edge, partner in enumerate(nesting.partners):
                self.assertEqual(cut.body.skin.mate(sheet.rim[edge]), sheet.rim[partner])
            self.assertTrue(is_sewing(Rim.of(sheet), nesting))
            self.assertTrue(sewn(sheet, nesting) == cut.body)
            self.assertTrue(cut_of(sheet, nesting) == cut)
            # The places of the nesting are those that the cut reaches.
            corners = corner_places(nesting.partners)
            places = [{cut.body.place_of(sheet.rim[corner]) for corner in place} for place in corners]
            self.assertEqual(sorted(min(place) for place in places), list(cut.reached))
            self.assertEqual({len(place) for place in places}, {1})
            # An idle end is a rim corner with a full round.
            for place, corner in zip(places, corners):
                if min(place) in cut.ends and min(place) not in cut.body.tips:
                    self.assertEqual([sheet.amounts[k] for k in corner], [sheet.skin.full])
            self.assertEqual(sums_of(sheet.amounts, nesting.partners), [cut.body.gathers[min(place)] for place in places])

    def test_small_bodies_lie_flat(self):
        for kind, faces in (("square", 1), ("square", 2), ("square", 3), ("square", 4), ("triangle", 4), ("triangle", 6)):
            for body in bodies_of(kind, faces)[::2]:
                for cut in cuts(body):
                    self.assertTrue(lies_flat(opened(cut)))

    def test_no_cut(self):
        for value in ODD_VALUES + (PILLOW, [0, 1, 2], opened(Cut(PILLOW, [0, 1, 2]))):
            self.assertEqual(raised(opened, value), ("BadCut", "cut"))
            self.assertEqual(raised(closing, value), ("BadCut", "cut"))


class CutOfTest(unittest.TestCase):
    def test_all_sewings(self):
        draw = random.Random(3)
        seen = 0
        for kind, faces in (("square", 1), ("square", 2), ("square", 4), ("triangle", 2), ("triangle", 5), ("triangle", 6)):
            for _ in range(4):
                sheet = drawn_sheet(kind, faces, draw, 0.3)
                if len(sheet) % 2 or len(sheet) > 10:
                    continue
                for partners in partner_rows(len(sheet)):
                    nesting = Nesting(partners)
                    if not is_sewing(Rim.of(sheet), nesting):
                        self.assertEqual(raised(cut_of, sheet, nesting), raised(sewn, sheet, nesting))
                        continue
                    cut = cut_of(sheet, nesting)
                    seen += 1
                    self.assertIsInstance(cut, Cut)
                    self.assertTrue(cut.body == sewn(sheet, nesting))
                    joined = {frozenset((sheet.rim[one], sheet.rim[other])) for one, other in nesting.pairs}
                    self.assertEqual({frozenset(cut.body.skin.seams[seam]) for seam in cut.seams}, joined)
                    self.assertTrue(opened(cut) == sheet)
                    self.assertTrue(closing(cut) == nesting)
        self.assertGreater(seen, 40)

    def test_large_sheets(self):
        draw = random.Random(4)
        for kind in ("square", "triangle"):
            sheet = drawn_sheet(kind, 16, draw)
            rim = Rim.of(sheet)
            for nesting in list(sewings(rim))[:4]:
                self.assertTrue(opened(cut_of(sheet, nesting)) == sheet)

    def test_what_is_refused_in_order(self):
        square, domino = Sheet.single("square"), Sheet.single("square").put_on(1)
        for value in ODD_VALUES + (square.skin, str(square)):
            self.assertEqual(raised(cut_of, value, None), ("BadSheet", "sheet"))
            self.assertEqual(raised(cut_of, square, value), ("BadNesting", "nesting"))
        self.assertEqual(raised(cut_of, domino, Nesting.read("0-1 2-3")), ("Misfit", "edges"))
        elbow = Sheet.read("square 3 : 1 7 / 6 8")
        draw = random.Random(5)
        seen = 0
        for _ in range(20):
            nesting = Nesting(random_row(len(elbow), draw))
            told = raised(cut_of, elbow, nesting)
            self.assertEqual(told, raised(sewn, elbow, nesting))
            seen += told is not None and told[0] == "TooMuch"
        self.assertGreater(seen, 3)


if __name__ == "__main__":
    unittest.main()
