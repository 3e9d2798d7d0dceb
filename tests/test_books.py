"""Books: what is refused, facts, colours, marks, what keeps them."""

import random
import unittest

from plain import ODD_VALUES, partner_rows, raised
from rimsewn.books import Book
from rimsewn.nestings import Nesting
from rimsewn.rims import Rim
from rimsewn.sayings import Bears, Joined, Meet, Places, Tips
from tables import plain_kept

DOMINO = Rim("square", [1, 2, 1, 1, 2, 1])
ELBOW = Rim("square", [1, 2, 1, 1, 3, 1, 1, 2])


class BooksTest(unittest.TestCase):
    def test_attributes(self):
        facts = [Meet(4, 0), ~Bears(2, 0, 3), Joined(0, 5), Tips(0, 4)]
        colours = [1, 1, -2, 10 ** 30, 0, 0]
        book = Book(DOMINO, facts, colours)
        facts.append(Tips(0, 1))
        colours[0] = 7
        self.assertTrue(book.rim == DOMINO)
        self.assertEqual([str(fact) for fact in book.facts], ["meet 4 0", "not bears 2 0 3", "joined 0 5", "tips 0 4"])
        self.assertEqual((book.colours, book.marks, len(book)), ((1, 1, -2, 10 ** 30, 0, 0), (0, 2, 4), 4))
        plain = Book(DOMINO)
        self.assertEqual((plain.facts, plain.colours, plain.marks, len(plain)), ((), None, (), 0))
        self.assertEqual(Book(rim=DOMINO, facts=(), colours=(0,) * 6).colours, (0,) * 6)
        self.assertEqual(Book(DOMINO, [Joined(0, 1), Tips(0, 1), Places(1, 0, 1)]).marks, ())

    def test_what_is_refused_in_order(self):
        for value in ODD_VALUES + (str(DOMINO),):
            self.assertEqual(raised(Book, value, None, 0), ("BadRim", "rim"))
        for value in ODD_VALUES + ([Tips(0, 1), None], ["tips 0 1"], {Tips: 1}, Tips(0, 1)):
            if value not in ([], ()):
                self.assertEqual(raised(Book, DOMINO, value, 0), ("BadSaying", "facts"))
        self.assertEqual(raised(Book, DOMINO, [Tips(0, 1), Joined(9, 8), Meet(7, 6)], 0), ("NoEdge", 9))
        self.assertEqual(raised(Book, DOMINO, [Tips(0, 1), ~Meet(0, 6), Joined(9, 8)], 0), ("NoCorner", 6))
        self.assertEqual(raised(Book, DOMINO, [~Places(4, 0, 1)], 0), ("BadSaying", "amount"))
        for value in ODD_VALUES + ([0] * 5, [0] * 7, [0] * 5 + [True], [0] * 5 + [None], "000000", {0: 1}, range(6)):
            if value is not None:
                self.assertEqual(raised(Book, DOMINO, [Tips(0, 1)] * 9, value), ("BadBook", "colours"))
        self.assertEqual(len(Book(DOMINO, [Tips(0, 1)] * 8)), 8)
        self.assertEqual(raised(Book, DOMINO, [Tips(0, 1)] * 9), ("TooMany", "facts", 8))
        five = [Meet(0, 1), Meet(2, 3), Bears(4, 0, 1)]
        self.assertEqual(raised(Book, DOMINO, five), ("TooMany", "marks", 4))
        self.assertEqual(raised(Book, DOMINO, five * 3), ("TooMany", "facts", 8))
        self.assertEqual(Book(DOMINO, five[:2] + [Bears(3, 0, 1), ~Meet(0, 2), Joined(4, 5)]).marks, (0, 1, 2, 3))
        self.assertEqual(raised(Book, DOMINO, five * 2 + [Joined(6, 7)]), ("NoEdge", 6))

    def test_with_fact(self):
        book = Book(DOMINO, [Tips(0, 1)], [1] * 6)
        more = book.with_fact(~Meet(0, 1))
        self.assertEqual([str(fact) for fact in more.facts], ["tips 0 1", "not meet 0 1"])
        self.assertEqual((more.colours, len(book)), ((1,) * 6, 1))
        for value in ODD_VALUES + ("tips 0 1",):
            self.assertEqual(raised(book.with_fact, value), ("BadSaying", "saying"))
        self.assertEqual(raised(book.with_fact, Joined(0, 6)), ("NoEdge", 6))
        self.assertEqual(raised(Book(DOMINO, [Tips(0, 1)] * 8).with_fact, Tips(0, 1)), ("TooMany", "facts", 8))
        self.assertEqual(raised(Book(DOMINO, [Meet(0, 1), Meet(2, 3)]).with_fact, Bears(4, 0, 0)), ("TooMany", "marks", 4))

    def test_without(self):
        book = Book(DOMINO, [Tips(0, 1), Tips(0, 2), Meet(0, 1), Tips(0, 4)], [2] * 6)
        less = book.without((3, 0))
        self.assertEqual([str(fact) for fact in less.facts], ["tips 0 2", "meet 0 1"])
        self.assertEqual(less.colours, (2,) * 6)
        self.assertTrue(book.without([]) == book)
        self.assertEqual(len(book.without([0, 1, 2, 3])), 0)
        for value in (None, 0, True, "0", {0}, {0: 1}, range(1)):
            self.assertEqual(raised(book.without, value), ("BadBook", "numbers"))
        for value in ODD_VALUES + (4, -1):
            if value != 0 or isinstance(value, bool):
                self.assertEqual(raised(book.without, [0, value, 9]), ("NoFact", value))
        self.assertEqual(raised(book.without, [1, 0, 1, 4]), ("NoFact", 4))
        self.assertEqual(raised(book.without, [1, 0, 0, 1]), ("Twice", 0))

    def test_keeps(self):
        kept = 0
        draw = random.Random(2)
        choices = [Joined(0, 1), ~Joined(2, 3), Meet(0, 2), ~Meet(1, 5), Bears(1, 3, 4), ~Bears(4, 4, 4), Tips(3, 4),
                   Places(1, 2, 2), ~Places(2, 1, 1), ~Tips(5, 5)]
        for _ in range(60):
            facts = draw.sample(choices, draw.randrange(3))
            colours = draw.choice([None, [0, 0, 1, 1, 0, 0, 1, 1], [0] * 8, [0, 1] * 4, [0, 0, 0, 0, 0, 1, 1, 0]])
            book = Book(ELBOW, facts, colours)
            rows = plain_kept(ELBOW, facts, colours)
            for row in partner_rows(8):
                self.assertIs(book.keeps(Nesting(row)), row in rows)
            kept += len(rows)
        self.assertGreater(kept, 30)
        for value in ODD_VALUES + ((1, 0, 3, 2, 5, 4, 7, 6),):
            self.assertEqual(raised(Book(ELBOW).keeps, value), ("BadNesting", "nesting"))
        self.assertEqual(raised(Book(ELBOW).keeps, Nesting([1, 0])), ("Misfit", "edges"))

    def test_equality(self):
        book = Book(DOMINO, [Tips(0, 1), Meet(0, 1)], [1] * 6)
        self.assertTrue(book == Book(Rim.read(str(DOMINO)), (Tips(0, 1), Meet(0, 1)), (1,) * 6))
        for other in (Book(DOMINO, [Meet(0, 1), Tips(0, 1)], [1] * 6), Book(DOMINO, [Tips(0, 1), Meet(0, 1)]),
                      Book(DOMINO, [Tips(0, 1)], [1] * 6), Book(DOMINO.turned(1), [Tips(0, 1), Meet(0, 1)], [1] * 6),
                      Book(DOMINO, [Tips(0, 1), Meet(0, 1)], [2] * 6), None, DOMINO):
            self.assertFalse(book == other)


if __name__ == "__main__":
    unittest.main()
