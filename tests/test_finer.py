"""Finer skins and sheets."""

import unittest

from plain import ODD_VALUES, raised, random_seams
from rimsewn.cells import lies_flat, sheet_of
from rimsewn.finer import finer, finer_sheet
from rimsewn.places import gathers, pieces, place_of, places, rims, surplus
from rimsewn.sheets import Sheet
from rimsewn.skins import Skin
from test_sheets import SLIT, grown

TURN = {"square": 4, "triangle": 3}


def plain_sides(kind, face):
    """For each side of the four faces of a face what it goes between, as sets of names of points."""
    turn = TURN[kind]
    sides = {}
    for k in range(turn):
        corner, middle, ahead = ("corner", k), ("middle", k), ("middle", (k - 1) % turn)
        around = [corner, middle, "centre", ahead] if kind == "square" else [corner, middle, ahead]
        for at in range(turn):
            sides[(4 * face + k) * turn + at] = (around[at], around[(at + 1) % turn])
    if kind == "triangle":
        for at in range(3):
            sides[(4 * face + 3) * 3 + at] = (("middle", at), ("middle", (at + 1) % 3))
    return sides


def plain_finer(skin):
    """The seams of the finer skin, by the points between which its sides go."""
    turn, seams = skin.turn, []
    told = [plain_sides(skin.kind, face) for face in range(skin.faces)]
    for sides in told:
        at = {ends: side for side, ends in sides.items()}
        seams += [(side, at[ends[::-1]]) for side, ends in sides.items() if ends[::-1] in at and side < at[ends[::-1]]]

    def half(side, first):
        k = side % turn
        begin, middle, end = ("corner", k), ("middle", k), ("corner", (k + 1) % turn)
        ends = (begin, middle) if first else (middle, end)
        return [number for number, told_ends in told[side // turn].items() if told_ends == ends][0]

    for one, other in skin.seams:
        seams += [(half(one, True), half(other, False)), (half(one, False), half(other, True))]
    return seams


class FinerTest(unittest.TestCase):
    def test_seams(self):
        for kind in TURN:
            for faces in range(1, 7):
                for seed in range(4):
                    skin = Skin(kind, faces, random_seams(kind, faces, 3 * seed, seed))
                    self.assertTrue(finer(skin) == Skin(kind, 4 * faces, plain_finer(skin)))

    def test_seam_within_one_face(self):
        self.assertEqual(str(finer(Skin("square", 1, [(0, 1)]))), "square 4 : 0 11 / 1 6 / 2 13 / 4 7 / 5 10 / 9 14")
        self.assertTrue(finer(Skin("triangle", 1, [(0, 2)])) == Skin("triangle", 4, plain_finer(Skin("triangle", 1, [(0, 2)]))))

    def test_places_stay(self):
        for kind in TURN:
            for seed in range(6):
                skin = Skin(kind, 4, random_seams(kind, 4, 2 + seed, seed))
                new = finer(skin)
                turn = skin.turn
                kept = [[4 * (corner // turn) + corner % turn for corner in place] for place in places(skin)]
                old = set()
                for place in kept:
                    index = place_of(new, place[0] * turn)
                    old.add(index)
                    self.assertEqual(places(new)[index], tuple(corner * turn for corner in place))
                full = skin.full
                others = [amount for index, amount in enumerate(gathers(new)) if index not in old]
                self.assertEqual(others.count(full), len(skin.seams) + (skin.faces if kind == "square" else 0))
                self.assertEqual(others.count(full // 2), len(skin.free))
                self.assertEqual(len(others), others.count(full) + others.count(full // 2))
                self.assertEqual((pieces(new), surplus(new)), (pieces(skin), surplus(skin)))
                self.assertEqual(sum(len(rim) for rim in rims(new)), 2 * len(skin.free))

    def test_finer_sheets(self):
        for kind in TURN:
            for steps in range(8):
                sheet = grown(kind, steps, steps)
                if sheet.faces <= 6:
                    new = finer_sheet(sheet)
                    self.assertTrue(new == Sheet(finer(sheet.skin)))
                    self.assertEqual(len(new), 2 * len(sheet))
                    self.assertEqual(lies_flat(new), lies_flat(sheet))
                    self.assertEqual(sorted(new.amounts), sorted(sheet.amounts + (sheet.skin.full // 2,) * len(sheet)))
        self.assertFalse(lies_flat(finer_sheet(SLIT.put_on(8))))

    def test_what_is_refused(self):
        for value in ODD_VALUES + (SLIT,):
            self.assertEqual(raised(finer, value), ("BadSkin", "skin"))
        for value in ODD_VALUES + (SLIT.skin,):
            self.assertEqual(raised(finer_sheet, value), ("BadSheet", "sheet"))
        self.assertEqual(finer(Skin("triangle", 6)).faces, 24)
        self.assertEqual(raised(finer, Skin("triangle", 7)), ("TooMany", "faces", 24))
        line = [(x, 0) for x in range(7)]
        self.assertEqual(finer_sheet(sheet_of("square", line[:6])).faces, 24)
        self.assertEqual(raised(finer_sheet, sheet_of("square", line)), ("TooMany", "faces", 24))


if __name__ == "__main__":
    unittest.main()
