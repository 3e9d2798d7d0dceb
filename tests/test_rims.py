"""Rims: what is refused, turned and mirrored ones, the rim of a sheet, texts."""

import unittest

from plain import ODD_VALUES, bent_texts, check_no_texts, check_reading, raised, random_amounts, whole_number
from rimsewn.rims import Rim
from rimsewn.sheets import Sheet
from test_sheets import SLIT, sheets

DOMINO = Rim("square", [1, 2, 1, 1, 2, 1])


def can_stand(words):
    """Whether the last word can stand behind the others."""
    if len(words) == 1:
        return words[0] in ("square", "triangle")
    number = whole_number(words[-1])
    return number is not None and number >= 1 and len(words) <= 51


def lacks(words):
    return len(words) < 3


def sums_up(words):
    full = 4 if words[0] == "square" else 6
    return 2 * sum(int(word) for word in words[1:]) == full * (len(words) - 3)


class RimsTest(unittest.TestCase):
    def test_attributes(self):
        rim = Rim("triangle", [1, 2, 1, 2])
        self.assertEqual((rim.kind, rim.amounts, rim.full, len(rim)), ("triangle", (1, 2, 1, 2), 6, 4))
        self.assertEqual((DOMINO.amounts, DOMINO.full, len(DOMINO)), ((1, 2, 1, 1, 2, 1), 4, 6))
        self.assertEqual(len(Rim("square", [5, 1, 1, 1, 1, 1, 1, 1])), 8)

    def test_what_is_refused_in_order(self):
        for value in ODD_VALUES + ("cube",):
            self.assertEqual(raised(Rim, value, None), ("BadKind", "kind"))
        for value in ODD_VALUES + ([1], (4,), [1, 1, 1, 0], [1, 1, 1, True], [1, 1, 1, 1.0], [1, 1, 1, None], "1111",
                                   [2, 2, -1, 1], range(1, 3), {1: 1, 2: 2}, [[1, 1], [1, 1]]):
            self.assertEqual(raised(Rim, "square", value), ("BadRim", "amounts"))
        for value in ([1, 1], (1, 1, 1), [1, 1, 1, 2], [1, 1, 1, 1, 1], [10 ** 40, 1]):
            self.assertEqual(raised(Rim, "square", value), ("BadRim", "sum"))
        for value in ([1, 1], (1, 1, 2), [1, 1, 1, 1]):
            self.assertEqual(raised(Rim, "triangle", value), ("BadRim", "sum"))
        self.assertEqual(raised(Rim, "square", [1] * 51), ("BadRim", "sum"))
        self.assertEqual(raised(Rim, "square", [48] + [1] * 50), ("TooMany", "edges", 50))
        self.assertEqual(raised(Rim, "triangle", [97] + [1] * 50), ("TooMany", "edges", 50))
        self.assertEqual(len(Rim("square", [47] + [1] * 49)), 50)

    def test_what_is_passed_is_copied(self):
        amounts = [1, 2, 1, 1, 2, 1]
        rim = Rim("square", amounts)
        amounts[0] = 9
        self.assertTrue(rim == DOMINO)

    def test_turned_and_mirrored(self):
        for kind in ("square", "triangle"):
            for edges in (4, 5, 9, 24):
                rim = Rim(kind, random_amounts(kind, edges, edges))
                for many in range(edges):
                    other = rim.turned(many)
                    self.assertEqual(other.kind, kind)
                    for corner in range(edges):
                        self.assertEqual(other.amounts[corner], rim.amounts[(corner + many) % edges])
                for corner in range(edges):
                    self.assertEqual(rim.mirrored().amounts[corner], rim.amounts[(edges - corner) % edges])
                self.assertTrue(rim.mirrored().mirrored() == rim)
        for value in ODD_VALUES + (6, -1):
            if value != 0 or isinstance(value, bool):
                self.assertEqual(raised(DOMINO.turned, value), ("NoCorner", value))

    def test_rim_of_a_sheet(self):
        for sheet in sheets():
            self.assertTrue(Rim.of(sheet) == Rim(sheet.kind, sheet.amounts))
            self.assertEqual(sorted(Rim.of(sheet.mirrored()).amounts), sorted(sheet.amounts))
        for value in ODD_VALUES + (SLIT.skin, DOMINO):
            self.assertEqual(raised(Rim.of, value), ("BadSheet", "sheet"))
        self.assertEqual(str(Rim.of(Sheet.single("triangle"))), "triangle 1 1 1")

    def test_equality(self):
        self.assertTrue(DOMINO == Rim("square", (1, 2, 1, 1, 2, 1)))
        for other in (DOMINO.turned(1), Rim("triangle", [1, 2, 1, 2]), str(DOMINO), DOMINO.amounts, None):
            self.assertFalse(DOMINO == other)

    def test_texts(self):
        for kind in ("square", "triangle"):
            for edges in (4, 7, 50):
                rim = Rim(kind, random_amounts(kind, edges, edges))
                self.assertTrue(Rim.read(str(rim)) == rim)

    def test_bent_texts(self):
        for text in (str(DOMINO), "triangle 1 1 1", "triangle 1 2 1 2", "square 1 1 1 1"):
            check_reading(self, Rim.read, bent_texts(text) + [text], can_stand, lacks, sums_up)
        more = ["", "square", "square 1", "square 1 1", "triangle 1 1", "square 0 1", "square 1 1 1 01",
                "square" + " 1" * 50, "square" + " 1" * 51, "square 47" + " 1" * 49, "square 48" + " 1" * 50,
                "square " + "9" * 60 + " 1", "square " + "9" * 61 + " 1", "square 1 1 1 1\n"]
        check_reading(self, Rim.read, more, can_stand, lacks, sums_up)
        check_no_texts(self, Rim.read)


if __name__ == "__main__":
    unittest.main()
