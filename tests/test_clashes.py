"""Clashes: none to spare, and which facts are left."""

import unittest

from plain import ODD_VALUES, raised
from rimsewn.books import Book
from rimsewn.clashes import Clash, clash
from rimsewn.rims import Rim
from rimsewn.sayings import Bears, Joined, Meet, Tips
from tables import Rule, plain_kept
from test_answers import some_book, some_saying

DOMINO = Rim("square", [1, 2, 1, 1, 2, 1])


def struck(book):
    """The numbers that are left when facts are struck, from the last one on."""
    numbers = list(range(len(book.facts)))
    for number in reversed(range(len(book.facts))):
        fewer = [other for other in numbers if other != number]
        if not plain_kept(book.rim, [book.facts[other] for other in fewer], book.colours):
            numbers = fewer
    return tuple(numbers)


class ClashesTest(unittest.TestCase):
    def test_against_all_nestings(self):
        sizes = {}
        for seed in range(160):
            book, corners, draw = some_book(5000 + seed, (4, 6, 8))
            book = Book(book.rim, list(book.facts) + [some_saying(book.rim, draw, corners) for _ in range(4)], book.colours)
            rows = plain_kept(book.rim, book.facts, book.colours)
            paper = clash(book)
            if rows:
                self.assertIsNone(paper)
                continue
            self.assertIsInstance(paper, Clash)
            self.assertIs(bool(paper), True)
            self.assertEqual(paper.numbers, struck(book))
            facts = [book.facts[number] for number in paper.numbers]
            self.assertTrue(Rule(book.rim, facts, book.colours).shows_none(paper.rows))
            self.assertEqual(len(paper.spared), len(paper.numbers))
            for number, row in zip(paper.numbers, paper.spared):
                others = [book.facts[other] for other in paper.numbers if other != number]
                self.assertIn(row, plain_kept(book.rim, others, book.colours))
            sizes[len(facts)] = sizes.get(len(facts), 0) + 1
            self.assertTrue(clash(book) == paper)
        self.assertTrue({0, 1, 2, 3} <= set(sizes), sizes)

    def test_order_of_striking(self):
        same = [Tips(9, 9), Tips(9, 9), Tips(9, 9)]
        self.assertEqual(clash(Book(DOMINO, same)).numbers, (0,))
        book = Book(DOMINO, [Joined(0, 1), Meet(0, 2), Meet(1, 3), ~Joined(0, 1)])
        self.assertEqual(clash(book).numbers, struck(book))
        self.assertEqual(clash(Book(DOMINO, [Tips(0, 9), Tips(9, 9)])).numbers, (1,))

    def test_no_facts(self):
        paper = clash(Book(DOMINO, [Tips(0, 9)], [1, 1, 1, 2, 3, 3]))
        self.assertEqual((paper.numbers, paper.spared), ((), ()))
        self.assertTrue(Rule(DOMINO, (), [1, 1, 1, 2, 3, 3]).shows_none(paper.rows))
        self.assertEqual(clash(Book(Rim("triangle", [1, 1, 1]), [Tips(0, 9)])).numbers, ())
        self.assertIsNone(clash(Book(DOMINO)))
        self.assertIsNone(clash(Book(DOMINO, [Bears(1, 3, 4)])))

    def test_what_is_refused(self):
        for value in ODD_VALUES + (DOMINO,):
            self.assertEqual(raised(clash, value), ("BadBook", "book"))


if __name__ == "__main__":
    unittest.main()
