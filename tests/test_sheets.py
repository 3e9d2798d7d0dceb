"""Sheets: what is refused, edges and amounts, faces put on and taken, edges tucked, texts."""

import random
import unittest

from plain import ODD_VALUES, bent_texts, check_no_texts, check_reading, raised
from rimsewn.places import places, rims
from rimsewn.sheets import Sheet
from rimsewn.skins import Skin
from test_skins import can_stand, lacks

SLIT = Sheet.read("square 4 : 1 7 / 6 8 / 11 13")
DISC = Skin("square", 3, [(1, 7), (2, 4), (6, 9), (0, 3)])


def grown(kind, steps, seed):
    """A sheet that comes of putting on faces, and tucking where it can be done."""
    draw = random.Random(seed)
    sheet = Sheet.single(kind)
    for _ in range(steps):
        full = [corner for corner, amount in enumerate(sheet.amounts) if amount == sheet.skin.full]
        if full and draw.random() < 0.6:
            sheet = sheet.tucked(draw.choice(full))
        elif sheet.faces < 24:
            sheet = sheet.put_on(draw.randrange(len(sheet)))
    return sheet


def sheets():
    for kind in ("square", "triangle"):
        for steps in (0, 1, 3, 8, 16, 30):
            for seed in range(3):
                yield grown(kind, steps, seed)


def makes_a_sheet(words):
    return raised(Sheet, Skin.read(" ".join(words))) is None


class SheetsTest(unittest.TestCase):
    def test_what_is_refused_in_order(self):
        for value in ODD_VALUES + (SLIT, "square 1 :"):
            self.assertEqual(raised(Sheet, value), ("BadSkin", "skin"))
        ring = Skin("square", 8, [(1, 7), (5, 11), (10, 12), (14, 16), (19, 21), (23, 25), (24, 30), (28, 2)])
        closed = Skin("square", 1, [(0, 1), (2, 3)])
        handle = Skin("square", 3, [(1, 7), (5, 11), (4, 6)])
        self.assertEqual(raised(Sheet, Skin("square", 2)), ("BadSheet", "pieces"))
        self.assertEqual(raised(Sheet, Skin("square", 2, [(0, 1), (2, 3), (4, 5), (6, 7)])), ("BadSheet", "pieces"))
        self.assertEqual(raised(Sheet, ring), ("BadSheet", "rims"))
        self.assertEqual(raised(Sheet, closed), ("BadSheet", "rims"))
        self.assertEqual(raised(Sheet, Skin("square", 1, [(0, 2)])), ("BadSheet", "rims"))
        self.assertEqual(raised(Sheet, Skin("square", 1, [(0, 1)])), ("BadSheet", "inside"))
        self.assertEqual(raised(Sheet, Skin("triangle", 2, [(0, 3), (1, 5)])), ("BadSheet", "inside"))
        # One rim, but with a handle: two bands across one another.
        crossed = Skin("square", 3, [(0, 4), (2, 6), (1, 8), (3, 10)])
        self.assertEqual((len(rims(crossed)), raised(Sheet, crossed)), (1, ("BadSheet", "surplus")))
        self.assertEqual(raised(Sheet, handle)[0], "BadSheet")

    def test_attributes(self):
        self.assertEqual((SLIT.kind, SLIT.faces, len(SLIT), SLIT.skin.free), ("square", 4, 10, tuple(sorted(SLIT.rim))))
        for sheet in sheets():
            self.assertEqual(sheet.rim, rims(sheet.skin)[0])
            self.assertEqual(len(sheet), len(sheet.rim))
            told = {place[0]: len(place) for place in places(sheet.skin)}
            self.assertEqual(sheet.amounts, tuple(told[side] for side in sheet.rim))
            self.assertEqual(2 * sum(sheet.amounts), sheet.skin.full * (len(sheet) - 2))
            self.assertEqual((sheet.kind, sheet.faces), (sheet.skin.kind, sheet.skin.faces))

    def test_single(self):
        self.assertEqual(str(Sheet.single("triangle")), "triangle 1 :")
        self.assertEqual(Sheet.single("square").amounts, (1, 1, 1, 1))
        for value in ODD_VALUES + ("cube",):
            self.assertEqual(raised(Sheet.single, value), ("BadKind", "kind"))

    def test_put_on(self):
        for sheet in sheets():
            if sheet.faces == 24:
                continue
            elder = str(sheet)
            for edge in range(len(sheet)):
                more = sheet.put_on(edge)
                self.assertEqual(more.skin.mate(sheet.rim[edge]), sheet.skin.sides)
                self.assertEqual(more.faces, sheet.faces + 1)
                at = {side: amount for side, amount in zip(sheet.rim, sheet.amounts)}
                behind = sheet.rim[(edge + 1) % len(sheet)]
                at[behind] += 1
                # Where the edge began, the first of the new edges begins now.
                first = at.pop(sheet.rim[edge]) + 1
                new = {sheet.skin.sides + k: 1 for k in range(2, sheet.skin.turn)}
                at.update({sheet.skin.sides + 1: first, **new})
                self.assertEqual(dict(zip(more.rim, more.amounts)), at)
            self.assertEqual(str(sheet), elder)

    def test_put_on_refuses(self):
        for value in ODD_VALUES + (10, -1):
            if value != 0 or isinstance(value, bool):
                self.assertEqual(raised(SLIT.put_on, value), ("NoEdge", value))
        sheet = Sheet.single("square")
        for _ in range(23):
            sheet = sheet.put_on(len(sheet) // 2)
        self.assertEqual((sheet.faces, len(sheet)), (24, 50))
        self.assertEqual(raised(sheet.put_on, 0), ("TooMany", "faces", 24))
        self.assertEqual(raised(sheet.put_on, 50), ("NoEdge", 50))

    def test_tucked(self):
        done = 0
        for sheet in sheets():
            elder = str(sheet)
            for corner, amount in enumerate(sheet.amounts):
                if amount != sheet.skin.full:
                    self.assertEqual(raised(sheet.tucked, corner), ("BadSheet", "tuck"))
                    continue
                done += 1
                less = sheet.tucked(corner)
                one, other = sheet.rim[corner - 1], sheet.rim[corner]
                self.assertEqual(less.skin.mate(one), other)
                self.assertEqual(len(less), len(sheet) - 2)
                at = dict(zip(sheet.rim, sheet.amounts))
                behind = sheet.rim[(corner + 1) % len(sheet)]
                at[behind] += at[one]
                del at[one], at[other]
                self.assertEqual(dict(zip(less.rim, less.amounts)), at)
            self.assertEqual(str(sheet), elder)
        self.assertGreater(done, 5)
        for value in ODD_VALUES + (10, -1):
            if value != 0 or isinstance(value, bool):
                self.assertEqual(raised(SLIT.tucked, value), ("NoCorner", value))

    def test_taken(self):
        self.assertEqual(str(SLIT.taken(0)), "square 3 : 2 4 / 7 9")
        self.assertEqual(raised(SLIT.taken, 1), ("BadSheet", "taken"))
        self.assertEqual(raised(Sheet.single("square").taken, 0), ("BadSheet", "taken"))
        around = Sheet.read("square 4 : 1 6 / 2 13 / 5 10 / 9 14")
        self.assertEqual(len(around.taken(2)), 8)
        for value in ODD_VALUES + (4, -1):
            if value != 0 or isinstance(value, bool):
                self.assertEqual(raised(SLIT.taken, value), ("NoFace", value))
                self.assertEqual(raised(Sheet.single("square").taken, value), ("NoFace", value))
        for sheet in sheets():
            if sheet.faces < 24:
                self.assertTrue(sheet.put_on(len(sheet) - 1).taken(sheet.faces) == sheet)
            elder = str(sheet)
            for face in range(sheet.faces):
                raised(sheet.taken, face)
            self.assertEqual(str(sheet), elder)

    def test_mirrored(self):
        for sheet in sheets():
            other = sheet.mirrored()
            self.assertTrue(other.skin == sheet.skin.mirrored())
            self.assertTrue(other.mirrored() == sheet)
            self.assertIn(other.amounts, [sheet.amounts[at::-1] + sheet.amounts[:at:-1] for at in range(len(sheet))])

    def test_equality_and_texts(self):
        for sheet in sheets():
            self.assertEqual(str(sheet), str(sheet.skin))
            self.assertTrue(Sheet.read(str(sheet)) == sheet)
            self.assertFalse(sheet == sheet.skin)
            self.assertFalse(sheet == str(sheet))
        self.assertFalse(Sheet.single("square") == Sheet.single("triangle"))

    def test_bent_texts(self):
        for text in ("square 1 :", str(SLIT), "triangle 2 : 1 4", "square 4 : 1 6 / 2 13 / 5 10 / 9 14"):
            check_reading(self, Sheet.read, bent_texts(text) + [text], can_stand, lacks, makes_a_sheet)
        self.assertEqual(raised(Sheet.read, "square 2 :"), ("BadText", 0, 2))
        self.assertEqual(raised(Sheet.read, "square 1 : 0 1"), ("BadText", 0, 4))
        self.assertEqual(raised(Sheet.read, "square 1 : 0 1 /"), ("BadText", 0, 6))
        check_no_texts(self, Sheet.read)


if __name__ == "__main__":
    unittest.main()
