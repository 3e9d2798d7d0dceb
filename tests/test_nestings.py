"""Nestings: what is refused, places, turned and mirrored ones, all of them, texts."""

import itertools
import random
import unittest

from plain import ODD_VALUES, bent_texts, check_no_texts, check_reading, corner_places, partner_rows, raised, random_row
from plain import whole_number
from rimsewn.nestings import Nesting, nestings

CATALAN = {2: 1, 4: 2, 6: 5, 8: 14, 10: 42, 12: 132}


def read_pair(word):
    numbers = [whole_number(part) for part in word.split("-")]
    return None if len(numbers) != 2 or None in numbers else numbers


def can_stand(words):
    """Whether the last word can stand behind the others."""
    ahead = [read_pair(word) for word in words[:-1]]
    pair = read_pair(words[-1])
    if pair is None:
        return False
    first, second = pair
    used = {edge for one in ahead for edge in one}
    least = min(edge for edge in range(100) if edge not in used)
    around = [one for one in ahead if one[0] < first < one[1]]
    return (first == least and second <= 49 and second > first and (second - first) % 2 == 1
            and all(second < one[1] for one in around))


def lacks(words):
    used = {edge for word in words for edge in read_pair(word)}
    return used != set(range(len(used)))


def first_crossing(row):
    """The crossing that is told, found among all of them."""
    found = [(one, other) for one in range(len(row)) for other in range(len(row)) if one < other < row[one] < row[other]]
    return min(found) if found else None


def rows_of_pairings(edges):
    """The partners of all pairings of so many edges, crossing or not."""
    def pairings(left):
        if not left:
            return [{}]
        return [{left[0]: other, other: left[0], **rest} for other in left[1:]
                for rest in pairings([edge for edge in left[1:] if edge != other])]
    return [[pairs[edge] for edge in range(edges)] for pairs in pairings(list(range(edges)))]


class NestingsTest(unittest.TestCase):
    def test_no_partners(self):
        for value in ODD_VALUES + ([1], [1, 0, 2], [0, 1], [1, 2, 0, 3], [1, 0, 3, 3], [2, 0], [-1, 0], [1, False],
                                   [True, 0], [1, 0.0], "10", range(2), {0: 1, 1: 0}, [[1, 0]], [3, 2, 1], [1, None]):
            self.assertEqual(raised(Nesting, value), ("BadNesting", "partners"))
        flat = [edge + 1 - 2 * (edge % 2) for edge in range(52)]
        self.assertEqual(len(Nesting(flat[:50])), 50)
        self.assertEqual(len(Nesting(flat[:2])), 2)
        self.assertEqual(raised(Nesting, flat), ("BadNesting", "partners"))

    def test_crossings(self):
        for edges in (2, 4, 6, 8):
            for row in rows_of_pairings(edges):
                crossing = first_crossing(row)
                self.assertEqual(raised(Nesting, row), None if crossing is None else ("Crossing",) + crossing)

    def test_long_crossings(self):
        draw = random.Random(5)
        for _ in range(60):
            row = list(random_row(50, draw))
            one, other = draw.sample(range(50), 2)
            if row[one] != other:
                mates = row[one], row[other]
                row[one], row[other], row[mates[0]], row[mates[1]] = other, one, mates[1], mates[0]
            crossing = first_crossing(row)
            self.assertEqual(raised(Nesting, row), None if crossing is None else ("Crossing",) + crossing)

    def test_attributes(self):
        for edges in (2, 4, 6, 8, 20, 50):
            for row in [random_row(edges, random.Random(seed)) for seed in range(6)]:
                nesting = Nesting(list(row))
                self.assertEqual(nesting.partners, row)
                self.assertEqual(nesting.pairs, tuple((one, row[one]) for one in range(edges) if one < row[one]))
                self.assertEqual(nesting.places, tuple(corner_places(row)))
                self.assertEqual((len(nesting), len(nesting.places)), (edges, edges // 2 + 1))

    def test_meets(self):
        for row in partner_rows(8):
            nesting = Nesting(row)
            for one, other in itertools.product(range(8), repeat=2):
                low, high = min(one, other), max(one, other)
                within = all(low <= row[edge] < high for edge in range(low, high))
                self.assertIs(nesting.meets(one, other), within)
        for value in ODD_VALUES + (8, -1):
            if value != 0 or isinstance(value, bool):
                self.assertEqual(raised(nesting.meets, value, None), ("NoCorner", value))
                self.assertEqual(raised(nesting.meets, 0, value), ("NoCorner", value))

    def test_turned_and_mirrored(self):
        for row in partner_rows(8):
            nesting = Nesting(row)
            for many in range(8):
                other = nesting.turned(many)
                for edge in range(8):
                    self.assertEqual((other.partners[edge] + many) % 8, row[(edge + many) % 8])
            for edge in range(8):
                self.assertEqual(7 - nesting.mirrored().partners[edge], row[7 - edge])
            self.assertTrue(nesting.mirrored().mirrored() == nesting)
            moved = sorted(tuple(sorted((8 - corner) % 8 for corner in place)) for place in nesting.places)
            self.assertEqual(list(nesting.mirrored().places), moved)
        for value in ODD_VALUES + (8, -1):
            if value != 0 or isinstance(value, bool):
                self.assertEqual(raised(nesting.turned, value), ("NoCorner", value))

    def test_all_nestings(self):
        for many, count in CATALAN.items():
            told = [one.partners for one in nestings(many)]
            self.assertEqual(len(told), count)
            self.assertEqual(told, sorted(set(told)))
            self.assertEqual(told, partner_rows(many))
            self.assertTrue(all(isinstance(one, Nesting) for one in nestings(many)))
        for value in ODD_VALUES + (0, 1, 3, 11, 13, 14, -2):
            self.assertEqual(raised(nestings, value), ("BadNumber", "many"))

    def test_equality(self):
        row = [1, 0, 3, 2]
        nesting = Nesting(row)
        row[0] = 3
        self.assertTrue(nesting == Nesting((1, 0, 3, 2)))
        for other in (Nesting([3, 2, 1, 0]), Nesting([1, 0]), (1, 0, 3, 2), str(nesting), None):
            self.assertFalse(nesting == other)

    def test_texts(self):
        for edges in (2, 6, 12, 50):
            for seed in range(5):
                nesting = Nesting(random_row(edges, random.Random(seed)))
                self.assertTrue(Nesting.read(str(nesting)) == nesting)

    def test_bent_texts(self):
        words = ("", "0-1", "0-3", "1-2", "2-3", "4-5", "0-49", "0-51", "0-2", "1-0", "-1-0", "3-", "01-2", "0-1-2",
                 "x", "6-7", "4-7", "0 -1", "0-1\n", "+0-1")
        for text in ("0-1", "0-1 2-3", "0-3 1-2", "0-5 1-2 3-4", "0-1 2-5 3-4 6-7", "0-7 1-6 2-3 4-5"):
            check_reading(self, Nesting.read, bent_texts(text, words) + [text], can_stand, lacks)
        more = ["", " ", "0-3 1-4 2-5", "0-49", "0-49 1-48", "0-3", "0-1 3-4", "0-" + "9" * 5000]
        flat = " ".join(f"{2 * k}-{2 * k + 1}" for k in range(25))
        check_reading(self, Nesting.read, more + [flat, flat + " 50-51"], can_stand, lacks)
        check_no_texts(self, Nesting.read)


if __name__ == "__main__":
    unittest.main()
