"""The bodies that sheets make: against all nestings."""

import random
import time
import unittest

from drawn import drawn_body, drawn_sheet, shuffled
from plain import ODD_VALUES, raised
from plain_bodies import plain_code
from plain_sheets import plain_made, plain_sewings_of, plain_sheet_code
from rimsewn.bodies import Body, sewn
from rimsewn.cells import sheet_of
from rimsewn.codes import alike_by_faces, code_of
from rimsewn.made import NotMade, code_of_sheet, made, makes
from rimsewn.nestings import Nesting
from rimsewn.rims import Rim
from rimsewn.sewn import Sewing, many_sewings, sewings
from rimsewn.sheets import Sheet
from rimsewn.skins import Skin

SQUARE = Sheet.single("square")
DOMINO = SQUARE.put_on(2)


def small_sheets():
    """Sheets of at most ten edges."""
    draw = random.Random(1)
    for kind, faces in (("square", 1), ("square", 2), ("square", 3), ("square", 4), ("triangle", 1), ("triangle", 2), ("triangle", 3),
                        ("triangle", 4), ("triangle", 6), ("triangle", 8)):
        for _ in range(4):
            sheet = drawn_sheet(kind, faces, draw, 0.4)
            if len(sheet) <= 10:
                yield sheet


def five_squares():
    """Sheets of five squares: of fewer no body is unlike its mirrored one."""
    draw = random.Random(6)
    return [drawn_sheet("square", 5, draw, 0.3) for _ in range(8)]


def renumbered(sheet, draw):
    """The same sheet, its faces and sides numbered otherwise."""
    order = list(range(sheet.faces))
    draw.shuffle(order)
    turn = sheet.skin.turn
    shifts = [draw.randrange(turn) for _ in order]

    def name(side):
        return order[side // turn] * turn + (side - shifts[side // turn]) % turn

    return Sheet(Skin(sheet.kind, sheet.faces, [(name(one), name(other)) for one, other in sheet.skin.seams]))


class CodeTest(unittest.TestCase):
    def test_codes(self):
        draw = random.Random(2)
        for sheet in list(small_sheets()) + [drawn_sheet(kind, 14, draw) for kind in ("square", "triangle")]:
            code = code_of_sheet(sheet)
            self.assertIsInstance(code, tuple)
            self.assertEqual(len(code), sheet.skin.sides)
            self.assertEqual(code, plain_sheet_code(sheet))
            self.assertEqual(code.count(-1), len(sheet))
            self.assertEqual(code_of_sheet(renumbered(sheet, draw)), code)

    def test_mirrored_sheets_are_apart(self):
        skew = sheet_of("square", [(0, 0), (1, 0), (1, 1), (2, 1)])
        self.assertNotEqual(code_of_sheet(skew), code_of_sheet(skew.mirrored()))
        self.assertEqual(code_of_sheet(DOMINO), code_of_sheet(DOMINO.mirrored()))

    def test_all_sheets_of_a_few_faces(self):
        # Of two, three and four squares as many sheets come as there are one-sided dominoes, trominoes and tetrominoes.
        sheets = [SQUARE]
        for many in (1, 2, 7):
            found = {}
            for sheet in sheets:
                for edge in range(len(sheet)):
                    wider = sheet.put_on(edge)
                    found[code_of_sheet(wider)] = wider
            flat = [sheet for sheet in found.values() if max(sheet.amounts) < 4]
            self.assertEqual(len(flat) + (many == 7), many)
            sheets = list(found.values())

    def test_no_sheet(self):
        for value in ODD_VALUES + (DOMINO.skin, str(DOMINO), drawn_body("square", 2, 1)):
            self.assertEqual(raised(code_of_sheet, value), ("BadSheet", "sheet"))
            self.assertEqual(raised(made, value), ("BadSheet", "sheet"))


class MadeTest(unittest.TestCase):
    def test_against_all_nestings(self):
        several = 0
        for sheet in list(small_sheets()) + five_squares():
            right = plain_made(sheet)
            self.assertEqual(made(sheet), tuple((code, len(right[code])) for code in sorted(right)))
            self.assertEqual(sum(many for _, many in made(sheet)), many_sewings(Rim.of(sheet)))
            several += len(right) > 1
        self.assertGreater(several, 8)

    def test_mirrored_bodies_are_apart(self):
        seen = 0
        for sheet in five_squares():
            bodies = [sewn(sheet, Nesting(row)) for row in plain_sewings_of(sheet)]
            for one in bodies:
                for other in bodies:
                    if alike_by_faces(one, other, True) and not alike_by_faces(one, other):
                        seen += 1
                        self.assertNotEqual(code_of(one), code_of(other))
                        self.assertLessEqual({code_of(one), code_of(other)}, {code for code, _ in made(sheet)})
        self.assertGreater(seen, 3)

    def test_no_sewing(self):
        for sheet in (Sheet.single("triangle"), sheet_of("triangle", [(0, 0, 0), (0, 0, 1), (1, 0, 0)])):
            self.assertEqual(made(sheet), ())
        wide = DOMINO
        while max(wide.amounts) < 8:
            wide = wide.put_on(wide.amounts.index(max(wide.amounts)))
        self.assertEqual(made(wide), ())

    def test_eight_faces_in_a_short_time(self):
        begin = time.perf_counter()
        draw = random.Random(3)
        strip = sheet_of("square", [(x, 0) for x in range(8)])
        for sheet in [strip, sheet_of("square", [(x, y) for x in range(4) for y in range(2)]), drawn_sheet("triangle", 8, draw)] + [
                drawn_sheet("square", 8, draw, 0.2) for _ in range(12)]:
            told = made(sheet)
            self.assertEqual(sum(many for _, many in told), many_sewings(Rim.of(sheet)))
            self.assertEqual(list(told), sorted(told))
        self.assertLess(time.perf_counter() - begin, 20)

    def test_renumbered_sheets_make_the_same(self):
        draw = random.Random(4)
        for sheet in small_sheets():
            self.assertEqual(made(renumbered(sheet, draw)), made(sheet))


class MakesTest(unittest.TestCase):
    def test_the_first_sewing(self):
        draw = random.Random(5)
        later = 0
        for sheet in small_sheets():
            for code, rows in plain_made(sheet).items():
                body = shuffled(sewn(sheet, Nesting(rows[-1])), draw)
                paper = makes(sheet, body)
                self.assertIsInstance(paper, Sewing)
                self.assertEqual(paper.partners, rows[0])
                self.assertTrue(alike_by_faces(sewn(sheet, Nesting(paper.partners)), body))
                later += rows[0] != plain_sewings_of(sheet)[0]
        self.assertGreater(later, 10)

    def test_not_made(self):
        seen = 0
        for sheet in list(small_sheets())[:20]:
            codes = tuple(sorted(plain_made(sheet)))
            for faces in (2, 4, 8):
                for seed in range(4):
                    body = drawn_body(sheet.kind, faces, seed)
                    if plain_code(body) in codes:
                        continue
                    seen += 1
                    paper = makes(sheet, body)
                    self.assertIsInstance(paper, NotMade)
                    self.assertEqual(paper.codes, codes)
                    self.assertEqual(paper.parts, (codes,))
        self.assertGreater(seen, 50)

    def test_a_mirrored_body_is_another_one(self):
        seen = 0
        for sheet in five_squares():
            codes = [code for code, _ in made(sheet)]
            for nesting in sewings(Rim.of(sheet)):
                body = sewn(sheet, nesting).mirrored()
                self.assertIs(bool(makes(sheet, body)), code_of(body) in codes)
                seen += code_of(body) not in codes
        self.assertGreater(seen, 2)

    def test_what_is_refused_in_order(self):
        body = drawn_body("square", 2, 1)
        for value in ODD_VALUES + (DOMINO.skin, str(DOMINO), body):
            self.assertEqual(raised(makes, value, None), ("BadSheet", "sheet"))
        for value in ODD_VALUES + (DOMINO, body.skin):
            self.assertEqual(raised(makes, Sheet.single("triangle"), value), ("BadBody", "body"))
        self.assertEqual(raised(makes, Sheet.single("triangle"), body), ("Misfit", "kind"))
        self.assertEqual(raised(makes, DOMINO, Body.read("triangle 2 : 0 3 / 1 5 / 2 4")), ("Misfit", "kind"))


if __name__ == "__main__":
    unittest.main()
