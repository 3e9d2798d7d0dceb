"""Sheets widened at an edge, and the sewings that last: against all nestings of the widened sheet."""

import random
import unittest

from drawn import drawn_sheet
from plain import ODD_VALUES, partner_rows, raised, random_row, sums_of
from rimsewn.grown import lasting, widened
from rimsewn.nestings import Nesting
from rimsewn.rims import Rim
from rimsewn.sheets import Sheet

NO_EDGES = (None, True, False, -1, 1.0, "0", [], (0,), {}, object(), 10 ** 30)


def sheets(most=6):
    draw = random.Random(1)
    for kind in ("square", "triangle"):
        for faces in range(1, most + 1):
            for _ in range(3):
                yield drawn_sheet(kind, faces, draw, 0.3)


class WidenedTest(unittest.TestCase):
    def test_each_edge(self):
        for sheet in list(sheets()) + [Sheet.single("square"), Sheet.single("triangle").put_on(0)]:
            for edge in range(len(sheet)):
                wider = widened(sheet, edge)
                self.assertIsInstance(wider, Sheet)
                first = sheet.skin.sides
                if sheet.kind == "square":
                    seams, new = [(sheet.rim[edge], first)], [first + 1, first + 2, first + 3]
                else:
                    seams, new = [(sheet.rim[edge], first), (first + 1, first + 3)], [first + 4, first + 5, first + 2]
                self.assertEqual(sorted(wider.skin.seams), sorted(list(sheet.skin.seams) + seams))
                # The new edges stand in turn in the place of the old one.
                row = list(sheet.rim[:edge]) + new + list(sheet.rim[edge + 1:])
                at = row.index(min(row))
                self.assertEqual(list(wider.rim), row[at:] + row[:at])
                self.assertEqual(len(wider), len(sheet) + 2)

    def test_numbers_of_faces_at_their_bound(self):
        draw = random.Random(2)
        for kind, last in (("square", 23), ("triangle", 22)):
            self.assertIsNone(raised(widened, drawn_sheet(kind, last, draw), 0))
            for faces in range(last + 1, 25):
                sheet = drawn_sheet(kind, faces, draw)
                self.assertEqual(raised(widened, sheet, 0), ("TooMany", "faces", 24))
                nesting = Nesting(random_row(len(sheet), draw)) if len(sheet) % 2 == 0 else None
                if nesting is not None:
                    self.assertEqual(raised(lasting, sheet, nesting, 0), ("TooMany", "faces", 24))
                    self.assertEqual(raised(lasting, sheet, Nesting([1, 0]), 0), ("Misfit", "edges"))

    def test_what_is_refused_in_order(self):
        single = Sheet.single("square")
        for value in ODD_VALUES + (single.skin, str(single)):
            self.assertEqual(raised(widened, value, None), ("BadSheet", "sheet"))
            self.assertEqual(raised(lasting, value, None, None), ("BadSheet", "sheet"))
            self.assertEqual(raised(lasting, single, value, None), ("BadNesting", "nesting"))
        for value in NO_EDGES + (4,):
            self.assertEqual(raised(widened, single, value), ("NoEdge", value))
            self.assertEqual(raised(lasting, single, Nesting([1, 0]), value), ("NoEdge", value))
        self.assertEqual(raised(lasting, single, Nesting([1, 0]), 3), ("Misfit", "edges"))
        full = drawn_sheet("square", 24, random.Random(3))
        self.assertEqual(raised(widened, full, len(full)), ("NoEdge", len(full)))


class LastingTest(unittest.TestCase):
    def plain_lasting(self, sheet, row, edge):
        """All sewings of the widened sheet that join the sides of each pair but that of the edge."""
        wider = widened(sheet, edge)
        pairs = [{sheet.rim[one], sheet.rim[other]} for one, other in enumerate(row) if one < other and edge not in (one, other)]
        found = []
        for partners in partner_rows(len(wider)):
            joined = [{wider.rim[one], wider.rim[other]} for one, other in enumerate(partners)]
            if max(sums_of(wider.amounts, partners)) <= wider.skin.full and all(pair in joined for pair in pairs):
                found.append(partners)
        return found

    def test_against_all_nestings(self):
        counts = {0: 0, 1: 0, 2: 0}
        draw = random.Random(4)
        for sheet in sheets(8):
            if len(sheet) % 2 or len(sheet) > 8:
                continue
            rows = partner_rows(len(sheet))
            for row in draw.sample(rows, min(4, len(rows))):
                for edge in range(len(sheet)):
                    told = lasting(sheet, Nesting(row), edge)
                    self.assertIsInstance(told, tuple)
                    self.assertTrue(all(isinstance(one, Nesting) for one in told))
                    self.assertEqual([one.partners for one in told], self.plain_lasting(sheet, row, edge))
                    counts[len(told)] += 1
        self.assertGreater(min(counts.values()), 10)

    def test_from_what_is_no_sewing(self):
        # Too much gathers at a place of the old nesting that is parted in two by one of the new ones.
        seen = 0
        for sheet in sheets(4):
            if len(sheet) % 2 or len(sheet) > 8:
                continue
            for row in partner_rows(len(sheet)):
                if max(sums_of(sheet.amounts, row)) > sheet.skin.full:
                    for edge in range(len(sheet)):
                        told = [one.partners for one in lasting(sheet, Nesting(row), edge)]
                        self.assertEqual(told, self.plain_lasting(sheet, row, edge))
                        seen += 1
        self.assertGreater(seen, 10)

    def test_large_sheets(self):
        draw = random.Random(5)
        for kind, faces in (("square", 23), ("triangle", 22), ("square", 15)):
            sheet = drawn_sheet(kind, faces, draw)
            nesting = Nesting(random_row(len(sheet), draw))
            for edge in range(len(sheet)):
                for one in lasting(sheet, nesting, edge):
                    self.assertLessEqual(max(sums_of(Rim.of(widened(sheet, edge)).amounts, one.partners)), sheet.skin.full)


if __name__ == "__main__":
    unittest.main()
