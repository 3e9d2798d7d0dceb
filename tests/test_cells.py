"""Cells: sheets of cells, and sheets laid out."""

import random
import unittest

from plain import ODD_VALUES, raised
from rimsewn.cells import laid, lies_flat, sheet_of
from rimsewn.sheets import Sheet
from test_places import RING
from test_sheets import SLIT, sheets

BOUNDS = {"square": (-99, 99), "triangle": (-99, 99)}


def corners(cell):
    """The points of the plane at the corners of a cell, counterclockwise; corner k is where side k begins."""
    if len(cell) == 2:
        x, y = cell
        return [(x, y), (x + 1, y), (x + 1, y + 1), (x, y + 1)]
    x, y, turned = cell
    return [(x + 1, y + 1), (x, y + 1), (x + 1, y)] if turned else [(x, y), (x + 1, y), (x, y + 1)]


def borders(cell):
    """The sides of a cell, each as the points where it begins and ends."""
    points = corners(cell)
    return [(points[k], points[(k + 1) % len(points)]) for k in range(len(points))]


def plain_seams(cells):
    """The pairs of sides of faces in these cells that run against each other."""
    turn = len(borders(cells[0]))
    at = {side: face * turn + k for face, cell in enumerate(cells) for k, side in enumerate(borders(cell))}
    return sorted((at[side], at[side[::-1]]) for side in at if side[::-1] in at and at[side] < at[side[::-1]])


def blob(kind, faces, seed):
    """So many cells that hang together."""
    draw = random.Random(seed)
    cells = [(0, 0) if kind == "square" else (0, 0, draw.randrange(2))]
    while len(cells) < faces:
        x, y = draw.choice(cells)[:2]
        x, y = draw.choice([(x + 1, y), (x - 1, y), (x, y + 1), (x, y - 1), (x, y)])
        cell = (x, y) if kind == "square" else (x, y, draw.randrange(2))
        if cell not in cells and any(side[::-1] in borders(cell) for other in cells for side in borders(other)):
            cells.append(cell)
    draw.shuffle(cells)
    return cells


class CellsTest(unittest.TestCase):
    def test_sheet_of_cells(self):
        for kind in BOUNDS:
            made = 0
            for faces in (1, 2, 3, 5, 8, 12, 24):
                for seed in range(4):
                    cells = blob(kind, faces, seed)
                    told = raised(sheet_of, kind, cells)
                    if told is None:
                        made += 1
                        sheet = sheet_of(kind, cells)
                        self.assertEqual(list(sheet.skin.seams), plain_seams(cells))
                        self.assertTrue(sheet == sheet_of(kind, tuple(list(cell) for cell in cells)))
                        self.assertTrue(lies_flat(sheet))
                    else:
                        self.assertEqual(told, ("BadSheet", "rims"))
            self.assertGreater(made, 15)

    def test_no_cells(self):
        for value in ODD_VALUES + ("cube",):
            self.assertEqual(raised(sheet_of, value, None), ("BadKind", "kind"))
        for value in ODD_VALUES + ({(0, 0)}, [(0, 0), None], [(0, 0, 0)], [(0,)], [(0, True)], [(0, 100)], [(-100, 0)],
                                   ["00"], [(0, 0), (0, 0), (0, 1.0)], range(2)):
            self.assertEqual(raised(sheet_of, "square", value), ("BadCells", "cells"))
        for value in ([(0, 0)], [(0, 0, 2)], [(0, 0, -1)], [(0, 0, True)], [(0, 100, 0)], [(0, 0, 0, 0)], []):
            self.assertEqual(raised(sheet_of, "triangle", value), ("BadCells", "cells"))

    def test_bounds(self):
        for at in (-99, 99):
            self.assertEqual(str(sheet_of("square", [(at, at)])), "square 1 :")
            self.assertEqual(str(sheet_of("triangle", [[at, at, 1]])), "triangle 1 :")
        self.assertEqual(str(sheet_of("square", [[98, 99], [99, 99]])), "square 2 : 1 7")
        line = [(x, 0) for x in range(24)]
        self.assertEqual(sheet_of("square", line).faces, 24)
        self.assertEqual(raised(sheet_of, "square", line + [(24, 0)]), ("TooMany", "faces", 24))
        self.assertEqual(raised(sheet_of, "square", line + [[7, 0], [3, 0]]), ("Twice", (7, 0)))
        self.assertEqual(raised(sheet_of, "triangle", [[0, 0, 0], [0, 0, 1], [0, 0, 0]]), ("Twice", (0, 0, 0)))
        self.assertEqual(raised(sheet_of, "square", [(2 * x, 0) for x in range(25)]), ("TooMany", "faces", 24))

    def test_no_sheet(self):
        self.assertEqual(raised(sheet_of, "square", [(0, 0), (1, 1)]), ("BadSheet", "pieces"))
        self.assertEqual(raised(sheet_of, "triangle", [(0, 0, 0), (0, 1, 0)]), ("BadSheet", "pieces"))
        self.assertEqual(raised(sheet_of, "square", RING), ("BadSheet", "rims"))

    def test_what_is_passed_stays(self):
        cells = [[0, 0], [1, 0]]
        sheet = sheet_of("square", cells)
        cells[1][0] = 7
        self.assertEqual((cells, str(sheet)), ([[0, 0], [7, 0]], "square 2 : 1 7"))

    def test_around_a_point(self):
        whole = sheet_of("square", [(0, 0), (1, 0), (1, 1), (0, 1)])
        self.assertEqual(whole.amounts, (1, 2) * 4)
        three = sheet_of("triangle", [(0, 0, 1), (1, 0, 0), (1, 0, 1)])
        self.assertEqual(three.amounts, (3, 1, 2, 2, 1))
        hexagon = [(0, 0, 0), (-1, 0, 1), (-1, 0, 0), (-1, -1, 1), (0, -1, 0), (0, -1, 1)]
        self.assertEqual(sheet_of("triangle", hexagon).amounts, (2,) * 6)

    def test_laid(self):
        flat = 0
        for sheet in list(sheets()) + [SLIT, SLIT.put_on(8)]:
            told = laid(sheet)
            turn = sheet.skin.turn
            self.assertEqual(told[0], ((0, 0) if turn == 4 else (0, 0, 0), 0))

            def border(side):
                cell, shift = told[side // turn]
                return borders(cell)[(side % turn + shift) % turn]

            for one, other in sheet.skin.seams:
                self.assertEqual(border(one), border(other)[::-1])
            self.assertTrue(all(0 <= shift < turn for cell, shift in told))
            self.assertEqual(len(told), sheet.faces)
            cells = [cell for cell, shift in told]
            self.assertIs(lies_flat(sheet), len(set(cells)) == len(cells))
            flat += lies_flat(sheet)
        self.assertGreater(flat, 5)

    def test_laid_out_cells_come_back(self):
        for kind in BOUNDS:
            cells = [(0, 0), (1, 0), (1, 1), (2, 1)] if kind == "square" else [(0, 0, 0), (0, 0, 1), (0, 1, 0), (1, 0, 0)]
            self.assertEqual(laid(sheet_of(kind, cells)), tuple((cell, 0) for cell in cells))

    def test_what_stands_over_itself(self):
        over = SLIT.put_on(8)
        self.assertEqual(laid(over)[4][0], laid(over)[3][0])
        fan = Sheet.single("triangle")
        for _ in range(6):
            self.assertTrue(lies_flat(fan))
            fan = fan.put_on(fan.rim.index(max(fan.rim)))
        self.assertEqual((max(fan.amounts), lies_flat(fan)), (7, False))

    def test_what_is_refused(self):
        for value in ODD_VALUES + (SLIT.skin,):
            self.assertEqual(raised(laid, value), ("BadSheet", "sheet"))
            self.assertEqual(raised(lies_flat, value), ("BadSheet", "sheet"))


if __name__ == "__main__":
    unittest.main()
