"""What is sure of all sewings that keep a book, against all nestings."""

import random
import unittest

from plain import ODD_VALUES, plain_kind, raised, random_amounts, sewn_amounts
from rimsewn.answers import Always, Both, Never, kinds, many, nth, number_in, possible, word_of
from rimsewn.books import Book
from rimsewn.nestings import Nesting
from rimsewn.rims import Rim
from rimsewn.sayings import Bears, Joined, Meet, Places, Tips
from rimsewn.sewn import Sewing, Unsewn, many_sewings
from tables import Rule, plain_holds, plain_kept

DOMINO = Rim("square", [1, 2, 1, 1, 2, 1])


def some_saying(rim, draw, corners):
    """A saying, drawn; if it is of rim corners it names some of these."""
    edges = len(rim)
    one = draw.randrange(edges)
    low = draw.randrange(0, 4)
    high = low + draw.randrange(0, 3)
    told = draw.choice([
        Joined(one, (one + draw.choice([1, 3, 5])) % edges if edges > 5 else (one + 1) % edges),
        Meet(*draw.sample(corners, 2)), Meet(*draw.sample(corners, 2)), Bears(draw.choice(corners), low, high),
        Tips(low, high + 2), Places(draw.randrange(1, rim.full), low, high)])
    return draw.choice([told, ~told, told if isinstance(told, Bears) else ~told])


def some_book(seed, edges=(4, 6, 8, 10)):
    """A book of a short rim, drawn by a seed, with corners that a saying more may name."""
    draw = random.Random(seed)
    kind = draw.choice(["square", "triangle"])
    size = draw.choice(edges)
    rim = Rim(kind, draw.choice([random_amounts, sewn_amounts, sewn_amounts])(kind, size, seed))
    corners = draw.sample(range(size), min(4, size))
    facts = [some_saying(rim, draw, corners) for _ in range(draw.choice([0, 1, 1, 2, 2, 3]))]
    colours = [draw.randrange(2) for _ in range(size)] if draw.random() < 0.25 else None
    return Book(rim, facts, colours), corners, draw


class AnswersTest(unittest.TestCase):
    def test_against_all_nestings(self):
        found = {True: 0, False: 0}
        for seed in range(300):
            book, corners, draw = some_book(seed)
            rows = plain_kept(book.rim, book.facts, book.colours)
            found[bool(rows)] += 1
            paper = possible(book)
            if rows:
                self.assertTrue(paper == Sewing(rows[0]))
            else:
                self.assertIsInstance(paper, Unsewn)
                self.assertTrue(Rule(book.rim, book.facts, book.colours).shows_none(paper.rows), seed)
            self.assertTrue(possible(book) == paper)
            self.assertEqual(many(book), len(rows))
            for number, row in enumerate(rows):
                self.assertEqual(nth(book, number).partners, row)
                self.assertEqual(number_in(book, Nesting(row)), number)
            told = [plain_kind(book.rim.amounts, book.rim.full, row) for row in rows]
            self.assertEqual(kinds(book), tuple(sorted((kind, told.count(kind)) for kind in set(told))))
        self.assertGreater(min(found.values()), 60)

    def test_words_against_all_nestings(self):
        found = {"always": 0, "never": 0, "both": 0}
        for seed in range(260):
            book, corners, draw = some_book(1000 + seed)
            rows = plain_kept(book.rim, book.facts, book.colours)
            saying = some_saying(book.rim, draw, corners)
            if not rows:
                self.assertEqual(raised(word_of, book, saying), ("Impossible", possible(book)))
                continue
            paper = word_of(book, saying)
            found[paper.word] += 1
            holding = [row for row in rows if plain_holds(saying, book.rim, row)]
            rule = Rule(book.rim, book.facts + (saying,), book.colours)
            if not holding:
                self.assertIsInstance(paper, Never)
                self.assertTrue(rule.shows_none(paper.rows))
            elif len(holding) == len(rows):
                self.assertIsInstance(paper, Always)
                self.assertTrue(Rule(book.rim, book.facts + (~saying,), book.colours).shows_none(paper.rows))
            else:
                self.assertIsInstance(paper, Both)
                self.assertIn(paper.one, holding)
                self.assertIn(paper.other, [row for row in rows if row not in holding])
            self.assertTrue(word_of(book, saying) == paper)
            opposite = {"always": "never", "never": "always", "both": "both"}[paper.word]
            self.assertEqual(word_of(book, ~saying).word, opposite)
        self.assertGreater(min(found.values()), 30)

    def test_twelve_edges(self):
        for seed in range(12):
            book, corners, draw = some_book(2000 + seed, (12,))
            rows = plain_kept(book.rim, book.facts, book.colours)
            self.assertEqual((many(book), bool(possible(book))), (len(rows), bool(rows)))
            self.assertEqual([nth(book, number).partners for number in range(len(rows))], rows)
            told = [plain_kind(book.rim.amounts, book.rim.full, row) for row in rows]
            self.assertEqual(kinds(book), tuple(sorted((kind, told.count(kind)) for kind in set(told))))

    def test_odd_rims(self):
        book = Book(Rim("triangle", [1, 1, 1]), [Meet(0, 1), Tips(0, 9)])
        paper = possible(book)
        self.assertEqual((paper.word, many(book), kinds(book)), ("unsewn", 0, ()))
        self.assertTrue(Rule(book.rim, book.facts).shows_none(paper.rows))
        self.assertEqual(raised(nth, book, 0), ("BadNumber", "number"))

    def test_rows_have_marks_and_kinds(self):
        rows = possible(Book(DOMINO, [Meet(0, 2), Meet(1, 3)])).rows
        self.assertEqual({mark for i, j, entries in rows for total, marks, kind in entries for mark in marks} - {1, 2, 3}, set())
        self.assertEqual({kind for i, j, entries in rows for total, marks, kind in entries}, {()})
        rows = possible(Book(DOMINO, [Tips(9, 9)])).rows
        self.assertEqual({len(kind) for i, j, entries in rows for total, marks, kind in entries}, {3})
        self.assertEqual([row[:2] for row in rows], Rule(DOMINO).stretches())

    def test_what_is_refused_in_order(self):
        book = Book(DOMINO, [Bears(1, 3, 4)])
        for value in ODD_VALUES + (DOMINO,):
            for ask in (possible, many, kinds):
                self.assertEqual(raised(ask, value), ("BadBook", "book"))
            for ask in (word_of, nth, number_in):
                self.assertEqual(raised(ask, value, None), ("BadBook", "book"))
        for value in ODD_VALUES + ("meet 0 2",):
            self.assertEqual(raised(word_of, book, value), ("BadSaying", "saying"))
            self.assertEqual(raised(number_in, book, value), ("BadNesting", "nesting"))
        for value in ODD_VALUES + (3, -1):
            if value != 0 or isinstance(value, bool):
                self.assertEqual(raised(nth, book, value), ("BadNumber", "number"))
        self.assertEqual(raised(number_in, book, Nesting([1, 0])), ("Misfit", "edges"))
        self.assertEqual(raised(number_in, book, Nesting([1, 0, 3, 2, 5, 4])), ("BadNesting", "kept"))
        clashing = Book(DOMINO, [Meet(0, 2), Meet(1, 3)])
        self.assertEqual(raised(number_in, clashing, Nesting([1, 0, 3, 2, 5, 4])), ("BadNesting", "kept"))
        for ask, saying, error in ((clashing, Joined(0, 6), ("NoEdge", 6)), (clashing, ~Meet(7, 0), ("NoCorner", 7)),
                                   (clashing, Places(4, 0, 1), ("BadSaying", "amount")),
                                   (clashing, Bears(5, 0, 1), ("Impossible", possible(clashing))),
                                   (Book(DOMINO, [Bears(c, 1, 4) for c in range(4)]), Bears(4, 0, 4), ("TooMany", "marks", 4)),
                                   (Book(DOMINO, [Bears(c, 1, 4) for c in range(4)]), ~Bears(4, 0, 4), ("TooMany", "marks", 4)),
                                   (Book(DOMINO, [Bears(c, 1, 4) for c in range(4)]), Bears(3, 0, 4), None),
                                   (Book(DOMINO, [Tips(0, 9)] * 8), Meet(0, 2), None)):
            self.assertEqual(raised(word_of, ask, saying), error)

    def test_long_rims(self):
        for kind in ("square", "triangle"):
            for seed in range(4):
                rim = Rim(kind, sewn_amounts(kind, 24, seed))
                self.assertEqual(many(Book(rim)), many_sewings(rim))
                first = possible(Book(rim)).partners
                facts = [Joined(0, first[0])] + [~Joined(edge, first[edge]) for edge in range(5, 8) if first[edge] != 0]
                colours = [min(edge, first[edge]) % 3 for edge in range(24)]
                for book in (Book(rim, facts), Book(rim, (), colours), Book(rim, facts[:1], colours)):
                    count = many(book)
                    self.assertEqual(bool(possible(book)), count > 0)
                    rows = [nth(book, number) for number in range(min(count, 20))]
                    self.assertTrue(all(book.keeps(row) for row in rows))
                    self.assertEqual([number_in(book, row) for row in rows], list(range(len(rows))))
                    if count:
                        for saying in (Joined(0, 3), ~Joined(11, 12)):
                            kept = many(book.with_fact(saying))
                            word = "never" if kept == 0 else "always" if kept == count else "both"
                            self.assertEqual(word_of(book, saying).word, word)

    def test_rims_of_sixteen_edges_with_facts_of_rim_corners(self):
        for kind in ("square", "triangle"):
            for seed in range(3):
                rim = Rim(kind, sewn_amounts(kind, 16, seed))
                facts = [~Meet(0, 8), Bears(4, 1, rim.full), ~Bears(12, 1, 1)]
                rows = plain_kept(rim, facts)
                book = Book(rim, facts)
                self.assertEqual((many(book), [nth(book, number).partners for number in range(len(rows))]), (len(rows), rows))
                for saying in (Meet(4, 12), Bears(0, 2, 3), ~Meet(0, 4)):
                    kept = [plain_holds(saying, rim, row) for row in rows]
                    if rows:
                        word = "always" if all(kept) else "both" if any(kept) else "never"
                        self.assertEqual(word_of(book, saying).word, word)


if __name__ == "__main__":
    unittest.main()
