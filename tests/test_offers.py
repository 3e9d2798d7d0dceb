"""Offers: the counts of each saying, and which one parts most evenly."""

import unittest

from plain import ODD_VALUES, raised
from rimsewn.answers import possible
from rimsewn.books import Book
from rimsewn.offers import Offer, offer
from rimsewn.rims import Rim
from rimsewn.sayings import Bears, Joined, Meet, Places, Tips
from tables import plain_holds, plain_kept
from test_answers import some_book, some_saying

DOMINO = Rim("square", [1, 2, 1, 1, 2, 1])


class OffersTest(unittest.TestCase):
    def test_against_all_nestings(self):
        numbers = set()
        for seed in range(80):
            book, corners, draw = some_book(9000 + seed)
            rows = plain_kept(book.rim, book.facts, book.colours)
            sayings = [some_saying(book.rim, draw, corners) for _ in range(draw.choice([1, 3, 5]))]
            if not rows:
                self.assertEqual(raised(offer, book, sayings), ("Impossible", possible(book)))
                continue
            paper = offer(book, tuple(sayings))
            self.assertIsInstance(paper, Offer)
            kept = [sum(plain_holds(saying, book.rim, row) for row in rows) for saying in sayings]
            counts = tuple((number, len(rows) - number) for number in kept)
            self.assertEqual(paper.counts, counts)
            greater = [max(pair) for pair in counts]
            self.assertEqual(paper.number, min(range(len(counts)), key=lambda at: (greater[at], at)))
            numbers.add(paper.number)
        self.assertTrue({0, 1, 2} <= numbers)

    def test_the_first_of_several(self):
        self.assertEqual(offer(Book(DOMINO), [Tips(0, 9), Joined(0, 1), ~Joined(0, 1), Tips(4, 4)]).parts,
                         (1, ((5, 0), (2, 3), (3, 2), (3, 2))))

    def test_what_is_refused_in_order(self):
        book = Book(DOMINO, [Bears(corner, 1, 4) for corner in range(4)])
        clashing = Book(DOMINO, [Meet(0, 2), Meet(1, 3)])
        for value in ODD_VALUES + (DOMINO,):
            self.assertEqual(raised(offer, value, None), ("BadBook", "book"))
        for value in ODD_VALUES + ([Tips(0, 1), None], "tips 0 1", [Tips(0, 1), "tips 0 1"], Tips(0, 1)):
            self.assertEqual(raised(offer, clashing, value), ("BadSaying", "sayings"))
        self.assertEqual(raised(offer, clashing, [Tips(0, 1), Places(4, 0, 1), Joined(0, 9)]), ("BadSaying", "amount"))
        self.assertEqual(raised(offer, clashing, [Tips(0, 1)] * 13 + [~Joined(0, 9), Meet(8, 9)]), ("NoEdge", 9))
        self.assertEqual(raised(offer, clashing, [Tips(0, 1)] * 13), ("Impossible", possible(clashing)))
        self.assertEqual(raised(offer, book, [Bears(4, 0, 1)] * 13), ("TooMany", "sayings", 12))
        self.assertEqual(raised(offer, book, [Bears(4, 0, 1)] * 12), ("TooMany", "marks", 4))
        self.assertEqual(raised(offer, book, [Tips(0, 1), Bears(4, 0, 1)]), ("TooMany", "marks", 4))
        self.assertEqual(len(offer(book, [Tips(0, 1)] * 12).counts), 12)
        # Marks are counted for each saying alone.
        three = Book(DOMINO, [Bears(corner, 1, 4) for corner in range(3)])
        self.assertEqual(len(offer(three, [Bears(3, 1, 4), Bears(4, 1, 4), Bears(5, 1, 4)]).counts), 3)
        self.assertEqual(raised(offer, three, [Bears(3, 1, 4), Meet(4, 5)]), ("TooMany", "marks", 4))


if __name__ == "__main__":
    unittest.main()
