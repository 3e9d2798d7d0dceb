"""The words of all pairs of edges and of rim corners, against all nestings and word by word."""

import random
import time
import unittest

from plain import ODD_VALUES, corner_places, raised, sewn_amounts
from rimsewn.answers import many, possible, word_of
from rimsewn.books import Book
from rimsewn.pairtables import joined_words, met_words
from rimsewn.rims import Rim
from rimsewn.sayings import Bears, Joined, Meet, Places, Tips
from tables import plain_kept
from test_answers import some_book

DOMINO = Rim("square", [1, 2, 1, 1, 2, 1])


def word(truths):
    return "always" if all(truths) else "both" if any(truths) else "never"


def plain_joined(rows, size):
    return tuple((i, j, word([row[i] == j for row in rows])) for i in range(size) for j in range(i + 1, size, 2))


def plain_met(rows, size):
    told = [[place for place in corner_places(row)] for row in rows]
    return tuple((i, j, word([any(i in place and j in place for place in places) for places in told]))
                 for i in range(size) for j in range(i + 2, size, 2))


class PairTablesTest(unittest.TestCase):
    def test_against_all_nestings(self):
        seen = set()
        found = {True: 0, False: 0, "marks": 0}
        for seed in range(260):
            book, corners, draw = some_book(20000 + seed)
            rows = plain_kept(book.rim, book.facts, book.colours)
            found[bool(rows)] += 1
            if not rows:
                for ask in (joined_words, met_words):
                    self.assertEqual(raised(ask, book), ("Impossible", possible(book)))
                continue
            told = joined_words(book)
            self.assertEqual(told, plain_joined(rows, len(book.rim)))
            seen |= {one[2] for one in told}
            if len(book.marks) > 2:
                found["marks"] += 1
                self.assertEqual(raised(met_words, book), ("TooMany", "marks", 4))
                continue
            self.assertEqual(met_words(book), plain_met(rows, len(book.rim)))
        self.assertEqual(seen, {"always", "never", "both"})
        self.assertGreater(min(found.values()), 5)

    def test_words_of_pairs(self):
        for book in (Book(DOMINO), Book(DOMINO, [Bears(1, 3, 4)]), Book(DOMINO, [Tips(4, 4), ~Joined(0, 5)]),
                     Book(DOMINO, [], [1, 1, 2, 2, 1, 1]), Book(DOMINO, [~Meet(0, 2), Places(1, 2, 2)])):
            for one, other, told in joined_words(book):
                self.assertEqual(word_of(book, Joined(one, other)).word, told)
            for one, other, told in met_words(book):
                self.assertEqual(word_of(book, Meet(one, other)).word, told)

    def test_which_pairs_are_told(self):
        told = joined_words(Book(DOMINO))
        self.assertIsInstance(told, tuple)
        self.assertEqual([one[:2] for one in told],
                         [(0, 1), (0, 3), (0, 5), (1, 2), (1, 4), (2, 3), (2, 5), (3, 4), (4, 5)])
        told = met_words(Book(DOMINO))
        self.assertIsInstance(told, tuple)
        self.assertEqual([one[:2] for one in told], [(0, 2), (0, 4), (1, 3), (1, 5), (2, 4), (3, 5)])
        self.assertTrue(all(isinstance(one, tuple) for one in told))

    def test_marks(self):
        two = Book(DOMINO, [Bears(1, 1, 4), ~Bears(4, 3, 3)])
        self.assertEqual(met_words(two), plain_met(plain_kept(two.rim, two.facts), 6))
        self.assertEqual(len(two.marks), 2)
        three = two.with_fact(Bears(0, 1, 4))
        self.assertEqual(raised(met_words, three), ("TooMany", "marks", 4))
        self.assertEqual(joined_words(three), plain_joined(plain_kept(three.rim, three.facts), 6))
        # What cannot be is told ahead of the marks.
        none = Book(DOMINO, [Meet(0, 2), Meet(1, 3)])
        self.assertEqual(raised(met_words, none), ("Impossible", possible(none)))

    def test_eight_facts(self):
        for seed in range(20):
            rim = Rim("square", sewn_amounts("square", 8, seed))
            row = plain_kept(rim)[0]
            draw = random.Random(seed)
            facts = [Joined(0, row[0])] + [~Joined(1, 4), Tips(0, 9), Places(1, 0, 8), ~Tips(9, 9)]
            facts += [Bears(draw.randrange(4), 1, 4), Tips(1, 8), Joined(row[0], 0)]
            book = Book(rim, facts)
            rows = plain_kept(rim, facts)
            self.assertEqual(len(book), 8)
            if rows:
                self.assertEqual(joined_words(book), plain_joined(rows, 8))
                self.assertEqual(met_words(book), plain_met(rows, 8))

    def test_rims_without_a_sewing(self):
        for rim in (Rim("triangle", [1, 1, 1]), Rim("square", [5, 1, 1, 1, 1, 1, 1, 1])):
            book = Book(rim)
            for ask in (joined_words, met_words):
                self.assertEqual(raised(ask, book), ("Impossible", possible(book)))

    def test_long_rims(self):
        begin = time.perf_counter()
        for kind in ("square", "triangle"):
            rim = Rim(kind, sewn_amounts(kind, 24, 7))
            first = possible(Book(rim)).partners
            colours = [min(edge, first[edge]) % 2 for edge in range(24)]
            for book in (Book(rim), Book(rim, [Joined(0, first[0])], colours), Book(rim, [~Joined(3, first[3])])):
                if many(book) == 0:
                    continue
                joined, met = joined_words(book), met_words(book)
                self.assertEqual((len(joined), len(met)), (144, 132))
                for one, other, told in joined[::17]:
                    self.assertEqual(word_of(book, Joined(one, other)).word, told)
                for one, other, told in met[::13]:
                    self.assertEqual(word_of(book, Meet(one, other)).word, told)
        self.assertLess(time.perf_counter() - begin, 30)

    def test_rims_of_sixteen_and_of_twelve_edges(self):
        for kind in ("square", "triangle"):
            rim = Rim(kind, sewn_amounts(kind, 16, 3))
            facts = [~Meet(0, 8)]
            rows = plain_kept(rim, facts)
            book = Book(rim, facts)
            self.assertEqual((joined_words(book), met_words(book)), (plain_joined(rows, 16), plain_met(rows, 16)))
            rim = Rim(kind, sewn_amounts(kind, 12, 5))
            facts = [Tips(3, 5), ~Places(1, 3, 9)]
            rows = plain_kept(rim, facts)
            if rows:
                book = Book(rim, facts)
                self.assertEqual((joined_words(book), met_words(book)), (plain_joined(rows, 12), plain_met(rows, 12)))

    def test_no_book(self):
        for value in ODD_VALUES + (DOMINO,):
            for ask in (joined_words, met_words):
                self.assertEqual(raised(ask, value), ("BadBook", "book"))


if __name__ == "__main__":
    unittest.main()
