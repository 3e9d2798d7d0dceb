"""Sheets joined at an edge, and several sheets: against all ways to join all edges in pairs."""

import itertools
import random
import unittest

from drawn import drawn_body, drawn_sheet
from plain import ODD_VALUES, raised
from plain_sheets import plain_codes_of_all
from rimsewn.made import code_of_sheet, made
from rimsewn.several import codes_of_all, joined
from rimsewn.sheets import Sheet

SQUARE, TRIANGLE = Sheet.single("square"), Sheet.single("triangle")
DOMINO, RHOMB = SQUARE.put_on(2), TRIANGLE.put_on(0)


def pairs_of_sheets():
    draw = random.Random(1)
    for kind in ("square", "triangle"):
        for _ in range(8):
            yield drawn_sheet(kind, draw.randrange(1, 6), draw), drawn_sheet(kind, draw.randrange(1, 6), draw)
        yield drawn_sheet(kind, 12, draw), drawn_sheet(kind, 12, draw)
        yield drawn_sheet(kind, 1, draw), drawn_sheet(kind, 23, draw)


class JoinedTest(unittest.TestCase):
    def test_at_each_edge(self):
        for one, other in pairs_of_sheets():
            for edge in range(len(one)):
                for other_edge in range(0, len(other), 1 + len(other) // 8):
                    sheet = joined(one, edge, other, other_edge)
                    self.assertIsInstance(sheet, Sheet)
                    self.seams_told(one, edge, other, other_edge, sheet)
                    self.amounts_told(one, edge, other, other_edge, sheet)

    def seams_told(self, one, edge, other, other_edge, sheet):
        """The second sheet's faces and sides have greater numbers, and one seam is new."""
        many = one.skin.sides
        moved = [(first + many, second + many) for first, second in other.skin.seams]
        new = (one.rim[edge], other.rim[other_edge] + many)
        self.assertEqual(sheet.faces, one.faces + other.faces)
        self.assertEqual(sorted(sheet.skin.seams), sorted(list(one.skin.seams) + moved + [new]))

    def amounts_told(self, one, edge, other, other_edge, sheet):
        """At both ends of the new seam the amounts are added up; the others stay."""
        many = one.skin.sides
        wanted = {side: amount for side, amount in zip(one.rim, one.amounts)}
        wanted.update({side + many: amount for side, amount in zip(other.rim, other.amounts)})
        begin, end = edge, (edge + 1) % len(one)
        its_begin, its_end = other_edge, (other_edge + 1) % len(other)
        # Where the edge of the one begins that of the other ends, and the other way about.
        at_begin = one.amounts[begin] + other.amounts[its_end]
        at_end = one.amounts[end] + other.amounts[its_begin]
        del wanted[one.rim[begin]], wanted[other.rim[its_begin] + many]
        wanted[other.rim[its_end] + many] = at_begin
        wanted[one.rim[end]] = at_end
        self.assertEqual({side: amount for side, amount in zip(sheet.rim, sheet.amounts)}, wanted)
        self.assertEqual(len(sheet), len(one) + len(other) - 2)

    def test_by_name(self):
        self.assertTrue(joined(one=SQUARE, edge=2, other=SQUARE, other_edge=0) == DOMINO)
        self.assertTrue(joined(SQUARE, 2, SQUARE, 3) == joined(SQUARE, 2, SQUARE, 3))

    def test_numbers_of_faces_at_their_bound(self):
        draw = random.Random(2)
        for kind in ("square", "triangle"):
            one, other = drawn_sheet(kind, 12, draw), drawn_sheet(kind, 13, draw)
            self.assertIsNone(raised(joined, one, 0, one, 1))
            self.assertEqual(raised(joined, one, 0, other, 1), ("TooMany", "faces", 24))
            self.assertEqual(raised(joined, drawn_sheet(kind, 24, draw), 0, Sheet.single(kind), 1), ("TooMany", "faces", 24))

    def test_what_is_refused_in_order(self):
        odd = (None, True, False, -1, 1.0, "0", [], (0,), {}, object(), 10 ** 30)
        for value in ODD_VALUES + (SQUARE.skin, str(SQUARE), drawn_body("square", 1, 1)):
            self.assertEqual(raised(joined, value, None, None, None), ("BadSheet", "one"))
            self.assertEqual(raised(joined, SQUARE, 0, value, None), ("BadSheet", "other"))
        for value in odd + (4,):
            self.assertEqual(raised(joined, SQUARE, value, None, None), ("NoEdge", value))
            self.assertEqual(raised(joined, TRIANGLE, 2, SQUARE, value), ("NoEdge", value))
        self.assertEqual(raised(joined, SQUARE, 3, TRIANGLE, 3), ("NoEdge", 3))
        self.assertEqual(raised(joined, SQUARE, 3, TRIANGLE, 2), ("Misfit", "kind"))
        large = drawn_sheet("square", 24, random.Random(3))
        self.assertEqual(raised(joined, large, 0, TRIANGLE, 2), ("Misfit", "kind"))


class SeveralTest(unittest.TestCase):
    def check(self, sheets):
        told = codes_of_all(sheets)
        self.assertIsInstance(told, tuple)
        self.assertEqual(told, plain_codes_of_all(sheets))
        return len(told)

    def test_two_sheets(self):
        slit = Sheet.read("square 3 : 1 7 / 6 8")
        found = [self.check(sheets) for sheets in (
            [SQUARE, SQUARE], [DOMINO, SQUARE], [slit, SQUARE], [SQUARE.put_on(0).put_on(0), SQUARE], [TRIANGLE, TRIANGLE], [RHOMB, RHOMB],
            [RHOMB.put_on(1), TRIANGLE], [RHOMB.put_on(1), RHOMB.put_on(2)], [RHOMB.put_on(1).put_on(1), RHOMB])]
        self.assertGreater(min(found), 0)

    def test_three_sheets(self):
        for sheets in ([SQUARE, SQUARE, SQUARE], [TRIANGLE, TRIANGLE, RHOMB], [RHOMB, RHOMB, RHOMB], [RHOMB.put_on(0), TRIANGLE, RHOMB]):
            self.assertGreater(self.check(sheets), 0)

    def test_against_sheets_of_all_joined_skins(self):
        # Two dominoes, and a domino with two squares: 10395 ways to join the edges.
        self.assertGreater(self.check([DOMINO, DOMINO]), 3)

    def test_tucked_sheets(self):
        # Six triangles round a point have no room beside them; five have, tucked or not.
        five = TRIANGLE
        while five.faces < 5:
            five = five.put_on(five.amounts.index(max(five.amounts)) if max(five.amounts) > 2 else 0)
        self.check([five, TRIANGLE])
        four = Sheet.read("triangle 4 : 0 3 / 1 6 / 2 9")
        self.check([four, TRIANGLE, TRIANGLE])

    def test_in_any_order(self):
        for sheets in ([SQUARE, DOMINO, SQUARE], [TRIANGLE, RHOMB, RHOMB.put_on(1)], [TRIANGLE, TRIANGLE, RHOMB], [DOMINO, SQUARE]):
            told = {codes_of_all(list(order)) for order in itertools.permutations(sheets)}
            self.assertEqual(len(told), 1)
            self.assertEqual(codes_of_all(tuple(sheets)), told.pop())

    def test_one_sheet_used_twice(self):
        self.assertEqual(codes_of_all([SQUARE, SQUARE]), tuple(code for code, _ in made(DOMINO)))
        self.assertEqual(codes_of_all([SQUARE, SQUARE]), codes_of_all([SQUARE, Sheet.single("square")]))

    def test_odd_numbers_of_edges(self):
        for sheets in ([TRIANGLE, RHOMB], [TRIANGLE, TRIANGLE, TRIANGLE], [RHOMB, RHOMB, TRIANGLE]):
            self.assertEqual(codes_of_all(sheets), ())
            self.assertEqual(plain_codes_of_all(sheets), ())

    def test_a_mirrored_sheet(self):
        one = RHOMB.put_on(1).put_on(3)
        self.assertEqual(self.check([one, RHOMB]), self.check([one.mirrored(), RHOMB]))
        self.assertEqual(code_of_sheet(RHOMB), code_of_sheet(RHOMB.mirrored()))

    def test_numbers_of_faces_at_their_bounds(self):
        self.assertIsNone(raised(codes_of_all, [DOMINO, DOMINO]))
        self.assertIsNone(raised(codes_of_all, [DOMINO, SQUARE, SQUARE]))
        self.assertEqual(raised(codes_of_all, [DOMINO, DOMINO, SQUARE]), ("TooMany", "faces", 4))
        self.assertEqual(raised(codes_of_all, [DOMINO.put_on(0), DOMINO]), ("TooMany", "faces", 4))
        self.assertIsNone(raised(codes_of_all, [RHOMB, RHOMB, RHOMB]))
        self.assertEqual(raised(codes_of_all, [RHOMB.put_on(0), RHOMB, RHOMB]), ("TooMany", "faces", 6))

    def test_what_is_refused_in_order(self):
        for value in ODD_VALUES + (SQUARE, "ab", [SQUARE], (SQUARE,), [SQUARE] * 4, [SQUARE, None], [SQUARE, SQUARE.skin], [SQUARE, SQUARE, 0],
                                   {0: SQUARE, 1: SQUARE}, [[SQUARE, SQUARE]], [SQUARE, [SQUARE]]):
            self.assertEqual(raised(codes_of_all, value), ("BadSheet", "sheets"))
        self.assertEqual(raised(codes_of_all, [SQUARE, TRIANGLE]), ("Misfit", "kind"))
        self.assertEqual(raised(codes_of_all, [SQUARE, SQUARE, TRIANGLE]), ("Misfit", "kind"))
        large = drawn_sheet("square", 9, random.Random(1))
        self.assertEqual(raised(codes_of_all, [large, TRIANGLE]), ("Misfit", "kind"))
        self.assertEqual(raised(codes_of_all, [large, large, large, large]), ("BadSheet", "sheets"))

    def test_the_list_stays(self):
        sheets = [SQUARE, DOMINO]
        codes_of_all(sheets)
        self.assertEqual([str(sheet) for sheet in sheets], [str(SQUARE), str(DOMINO)])


if __name__ == "__main__":
    unittest.main()
