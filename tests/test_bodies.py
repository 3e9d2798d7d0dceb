"""Bodies: what is refused, what is told of them, texts, renamed and mirrored ones, sewn sheets."""

import random
import unittest

from drawn import drawn_body, drawn_sheet
from plain import ODD_VALUES, bent_texts, check_no_texts, corner_places, partner_rows, raised, random_row
from plain_bodies import full_of_kind, matchings, plain_places, plain_refusal, turn_of
from rimsewn.bodies import Body, sewn
from rimsewn.nestings import Nesting
from rimsewn.places import places
from rimsewn.rims import Rim
from rimsewn.sheets import Sheet
from rimsewn.skins import Skin
from rimsewn.sums import kind_of

BENT = Body.read("square 2 : 0 4 / 1 7 / 2 3 / 5 6")


class BodyTest(unittest.TestCase):
    def test_all_ways_to_join_all_sides(self):
        counts = {}
        for kind, faces in (("square", 1), ("square", 2), ("triangle", 2), ("triangle", 4)):
            rows = list(matchings(list(range(faces * turn_of(kind)))))
            for seams in rows if len(rows) < 500 else rows[::7]:
                refusal = plain_refusal(kind, faces, seams)
                self.assertEqual(raised(Body, Skin(kind, faces, seams)), refusal, seams)
                counts[refusal and refusal[:2] if refusal and refusal[0] == "BadBody" else refusal and refusal[0]] = 1
        self.assertEqual(set(counts), {None, "TooMuch", ("BadBody", "pieces"), ("BadBody", "ball")})

    def test_what_is_refused_in_order(self):
        for value in ODD_VALUES + ("square 1 : 0 1 / 2 3", Sheet.single("square"), BENT):
            self.assertEqual(raised(Body, value), ("BadSkin", "skin"))
        self.assertEqual(raised(Body, Skin("square", 1)), ("BadBody", "open"))
        self.assertEqual(raised(Body, Skin("square", 2, [(0, 1), (2, 3), (4, 5)])), ("BadBody", "open"))
        self.assertEqual(raised(Body, Skin("triangle", 1, [(0, 1)])), ("BadBody", "open"))
        self.assertEqual(raised(Body, Skin("triangle", 3, [(0, 3), (1, 5), (2, 6), (4, 7)])), ("BadBody", "open"))
        self.assertEqual(raised(Body, Skin("square", 2, [(0, 1), (2, 3), (4, 5), (6, 7)])), ("BadBody", "pieces"))
        self.assertEqual(raised(Body, Skin("square", 1, [(0, 2), (1, 3)])), ("BadBody", "ball"))
        # A ring of faces and a ball: two pieces come first.
        self.assertEqual(raised(Body, Skin("square", 2, [(0, 2), (1, 3), (4, 5), (6, 7)])), ("BadBody", "pieces"))
        wide = [(1, 4), (5, 8), (9, 12), (13, 16), (0, 17), (2, 3), (6, 7), (10, 11), (14, 15), (18, 19)]
        refusal = plain_refusal("square", 5, wide)
        self.assertEqual(refusal[0], "TooMuch")
        self.assertEqual(raised(Body, Skin("square", 5, wide)), refusal)

    def test_the_first_place_at_which_too_much_gathers(self):
        seen = set()
        for seams in list(matchings(list(range(12))))[::5]:
            refusal = plain_refusal("square", 3, seams)
            self.assertEqual(raised(Body, Skin("square", 3, seams)), refusal)
            if refusal and refusal[0] == "TooMuch":
                seen.add(refusal[1])
        self.assertGreater(len(seen), 1)

    def test_what_is_told(self):
        for kind in ("square", "triangle"):
            for faces in (2, 4, 6, 10, 16, 24):
                body = drawn_body(kind, faces, faces)
                full = full_of_kind(kind)
                self.assertEqual((body.kind, body.faces, body.turn, body.full), (kind, faces, turn_of(kind), full))
                self.assertEqual(body.places, places(body.skin))
                self.assertEqual([tuple(sorted(place)) for place in body.places],
                                 plain_places(kind, faces, body.skin.seams))
                for place in body.places:
                    self.assertEqual(place[0], min(place))
                    for corner, behind in zip(place, place[1:] + place[:1]):
                        self.assertEqual(body.skin.mate(body.skin.back(corner)), behind)
                self.assertEqual(body.gathers, tuple(len(place) for place in body.places))
                self.assertEqual(body.tips, tuple(k for k, many in enumerate(body.gathers) if many < full))
                self.assertEqual(body.tally, tuple(body.gathers.count(many) for many in range(1, full)))
                self.assertEqual(len(body.places), faces + 2 if kind == "square" else faces // 2 + 2)
                self.assertEqual(sum(full - many for many in body.gathers), 2 * full)
                for index, place in enumerate(body.places):
                    self.assertEqual({body.place_of(corner) for corner in place}, {index})
                for value in (body.gathers, body.tips, body.tally, body.places):
                    self.assertIsInstance(value, tuple)

    def test_place_of(self):
        for value in ODD_VALUES + (8, -1, "1", 10 ** 30):
            if value != 0 or isinstance(value, bool):
                self.assertEqual(raised(BENT.place_of, value), ("NoSide", value))
        self.assertEqual([BENT.place_of(corner) for corner in range(8)], [0, 1, 0, 2, 1, 0, 3, 0])

    def test_equality(self):
        same = Body(Skin("square", 2, [(6, 5), (3, 2), (7, 1), (4, 0)]))
        self.assertTrue(BENT == same)
        self.assertFalse(BENT != same)
        for other in (BENT.mirrored(), BENT.skin, str(BENT), None, drawn_body("square", 2, 5), drawn_body("triangle", 2, 1)):
            if str(other) != str(BENT) or not isinstance(other, Body):
                self.assertFalse(BENT == other)

    def test_nothing_passed_is_changed(self):
        seams = [[0, 1], [2, 3]]
        skin = Skin("square", 1, seams)
        body = Body(skin)
        seams[0][0] = 3
        self.assertEqual(str(body), "square 1 : 0 1 / 2 3")
        order, shifts = [1, 0], [1, 0]
        BENT.renamed(order, shifts)
        self.assertEqual((order, shifts), ([1, 0], [1, 0]))


class TextTest(unittest.TestCase):
    def test_bent_texts(self):
        for text in ("square 1 : 0 1 / 2 3", "triangle 2 : 0 3 / 1 5 / 2 4", str(BENT)):
            self.assertEqual(str(Body.read(text)), text)
            for bent in bent_texts(text) + [text + " / 8 9", text + " /", text[:-1] + "0"]:
                told = raised(Skin.read, bent)
                if told is None:
                    skin = Skin.read(bent)
                    if plain_refusal(skin.kind, skin.faces, skin.seams):
                        told = ("BadText", 0, len(bent.split(" ")) - 1)
                self.assertEqual(raised(Body.read, bent), told, bent)
                if told is None:
                    self.assertEqual(str(Body.read(bent)), bent)

    def test_skins_that_are_no_bodies(self):
        for text in ("square 1 :", "square 1 : 0 1", "square 1 : 0 2 / 1 3", "square 2 : 0 1 / 2 3 / 4 5 / 6 7",
                     "square 3 : 0 1 / 2 4 / 3 8 / 5 9 / 6 7 / 10 11"):
            self.assertEqual(raised(Body.read, text), ("BadText", 0, len(text.split(" ")) - 1), text)
        check_no_texts(self, Body.read)

    def test_texts_of_drawn_bodies(self):
        for kind in ("square", "triangle"):
            for seed in range(10):
                body = drawn_body(kind, 8, seed)
                self.assertTrue(Body.read(str(body)) == body)
                self.assertEqual(str(body), str(body.skin))


class RenamedTest(unittest.TestCase):
    def test_renamed(self):
        for kind in ("square", "triangle"):
            for seed in range(20):
                body = drawn_body(kind, 6, seed)
                draw = random.Random(seed)
                turn = body.turn
                order = draw.sample(range(6), 6)
                shifts = [draw.randrange(turn) for _ in range(6)]
                renamed = body.renamed(tuple(order), shifts)

                def name(side):
                    return order[side // turn] * turn + (side % turn - shifts[side // turn]) % turn

                seams = sorted(tuple(sorted((name(one), name(other)))) for one, other in body.skin.seams)
                self.assertEqual(list(renamed.skin.seams), seams)
                for face in range(6):
                    self.assertEqual(name(face * turn + shifts[face]), order[face] * turn)
                self.assertEqual(renamed.tally, body.tally)
                still = body.renamed(list(range(6)), [0] * 6)
                self.assertTrue(still == body)

    def test_what_renamed_refuses(self):
        for value in ODD_VALUES + ([0], [0, 0], [1, 2], [0, 1, 2], [0, -1], ["0", "1"], [0, True], [0.0, 1.0], "01", [[0], [1]]):
            if value != (0, 1):
                self.assertEqual(raised(BENT.renamed, value, None), ("BadNumber", "faces"), value)
        for value in ODD_VALUES + ([0], [0, 4], [0, 0, 0], [0, -1], ["0", "1"], [0, True], [0.0, 1.0], "01", [0, [1]]):
            if value != (0, 1):
                self.assertEqual(raised(BENT.renamed, [1, 0], value), ("BadNumber", "shifts"), value)
        self.assertIsNone(raised(BENT.renamed, (1, 0), (3, 3)))
        three = Body.read("triangle 2 : 0 3 / 1 5 / 2 4")
        self.assertEqual(raised(three.renamed, [0, 1], [0, 3]), ("BadNumber", "shifts"))
        self.assertIsNone(raised(three.renamed, [0, 1], [0, 2]))

    def test_mirrored(self):
        for kind in ("square", "triangle"):
            for seed in range(10):
                body = drawn_body(kind, 8, seed)
                self.assertIsInstance(body.mirrored(), Body)
                self.assertTrue(body.mirrored().skin == body.skin.mirrored())
                self.assertTrue(body.mirrored().mirrored() == body)
                self.assertEqual(body.mirrored().tally, body.tally)


class SewnTest(unittest.TestCase):
    def test_drawn_sheets_and_nestings(self):
        counts = {True: 0, False: 0}
        for kind in ("square", "triangle"):
            for seed in range(120):
                draw = random.Random(seed)
                sheet = drawn_sheet(kind, draw.choice([1, 2, 3, 4, 6, 8]) * (1 if kind == "square" else 2), draw)
                partners = random_row(len(sheet), draw)
                nesting = Nesting(partners)
                groups = corner_places(partners)
                sums = [sum(sheet.amounts[corner] for corner in group) for group in groups]
                above = [group[0] for group, total in zip(groups, sums) if total > sheet.skin.full]
                counts[bool(above)] += 1
                if above:
                    self.assertEqual(raised(sewn, sheet, nesting), ("TooMuch", above[0]))
                    continue
                body = sewn(sheet, nesting)
                self.assertIsInstance(body, Body)
                seams = [tuple(sorted((sheet.rim[one], sheet.rim[other]))) for one, other in nesting.pairs]
                self.assertEqual(body.skin.seams, tuple(sorted(list(sheet.skin.seams) + seams)))
                self.assertEqual(body.tally, kind_of(Rim.of(sheet), nesting))
        self.assertGreater(min(counts.values()), 20)

    def test_all_nestings_of_a_square(self):
        square = Sheet.single("square")
        told = [str(sewn(square, Nesting(row))) for row in partner_rows(4)]
        self.assertEqual(told, ["square 1 : 0 1 / 2 3", "square 1 : 0 3 / 1 2"])

    def test_what_is_refused_in_order(self):
        square, nesting = Sheet.single("square"), Nesting([1, 0])
        for value in ODD_VALUES + (square.skin, str(square)):
            self.assertEqual(raised(sewn, value, None), ("BadSheet", "sheet"))
        for value in ODD_VALUES + ("0-1 2-3", [1, 0, 3, 2]):
            self.assertEqual(raised(sewn, square, value), ("BadNesting", "nesting"))
        self.assertEqual(raised(sewn, square, nesting), ("Misfit", "edges"))
        self.assertEqual(raised(sewn, Sheet.single("triangle"), nesting), ("Misfit", "edges"))


if __name__ == "__main__":
    unittest.main()
