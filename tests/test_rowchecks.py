"""Checks of rows that tell tables of books: with marks and kinds, against a plain telling of the rule."""

import unittest

from plain import ODD_VALUES
from rimsewn.answers import Always, Never, possible, word_of
from rimsewn.books import Book
from rimsewn.rims import Rim
from rimsewn.rowchecks import shows_none
from rimsewn.sayings import Meet, Tips
from rimsewn.terms import Terms
from tables import Rule
from test_answers import some_book, some_saying

DOMINO = Rim("square", [1, 2, 1, 1, 2, 1])


def terms_of(book, put_in=()):
    return Terms(book.rim, book.facts + put_in, book.colours, False)


class RowChecksTest(unittest.TestCase):
    def test_rows_of_answers(self):
        seen = set()
        for seed in range(150):
            book, corners, draw = some_book(7000 + seed, (4, 6, 8))
            paper = possible(book)
            if not paper:
                self.assertTrue(shows_none(terms_of(book), paper.rows))
                seen.add("unsewn")
                continue
            saying = some_saying(book.rim, draw, corners)
            paper = word_of(book, saying)
            if isinstance(paper, (Always, Never)):
                seen.add(paper.word)
                right, wrong = (~saying, saying) if isinstance(paper, Always) else (saying, ~saying)
                self.assertTrue(shows_none(terms_of(book, (right,)), paper.rows))
                self.assertFalse(shows_none(terms_of(book, (wrong,)), paper.rows))
        self.assertEqual(seen, {"unsewn", "always", "never"})

    def test_entries_left_out_and_put_in(self):
        both = {True: 0, False: 0}
        for seed in range(60):
            book, corners, draw = some_book(8000 + seed, (4, 6))
            paper = possible(book)
            if paper:
                continue
            rule = Rule(book.rim, book.facts, book.colours)
            for at, (i, j, entries) in enumerate(paper.rows):
                more = [(total, entry[1], entry[2]) for entry in entries[:1] for total in range(book.rim.full + 1)]
                changed = [entries[:k] + entries[k + 1:] for k in range(len(entries))]
                for row in changed + [entries + (entry,) for entry in more]:
                    bent = paper.rows[:at] + ((i, j, row),) + paper.rows[at + 1:]
                    told = shows_none(terms_of(book), bent)
                    self.assertIs(told, rule.shows_none(bent))
                    both[told] += 1
        self.assertGreater(min(both.values()), 10)

    def test_bent_entries(self):
        for facts, more in (((Meet(2, 4), Tips(9, 9)), True), ((Meet(2, 4), Meet(1, 3)), False)):
            book = Book(DOMINO, facts)
            rows = possible(book).rows
            terms = terms_of(book)
            zero = (0, 0, 0) if more else ()
            at = [row[:2] for row in rows].index((1, 5))

            def put_in(*entry):
                i, j, entries = rows[at]
                return shows_none(terms, rows[:at] + ((i, j, entries + (entry,)),) + rows[at + 1:])

            self.assertTrue(shows_none(terms, rows))
            self.assertTrue(put_in(4, (2, 4), zero))
            self.assertTrue(put_in(4, (), zero))
            for marks in ((4, 2), (2, 2), (1,), (5,), (0,), (2.0,), (True,), None, "2"):
                self.assertFalse(put_in(4, marks, zero), marks)
            # Mark 4 ends the stretch (2, 4), mark 2 begins it: neither is within.
            at = [row[:2] for row in rows].index((2, 4))
            self.assertTrue(put_in(4, (), zero))
            for marks in ((4,), (2,), (2, 4)):
                self.assertFalse(put_in(4, marks, zero))
            at = [row[:2] for row in rows].index((1, 5))
            if 3 not in book.marks:
                self.assertFalse(put_in(4, (3,), zero))
            if more:
                self.assertTrue(put_in(4, (), (10 ** 40, 0, 7)))
            for kind in ((0,), (0, 0), (0, 0, 0, 0), (0, 0, -1), (0, 0, True), (0, 0, 0.0), None, (0, 0, None)):
                self.assertFalse(put_in(4, (), kind), kind)
            self.assertFalse(put_in(4, (), () if more else (0, 0, 0)))
            for value in ODD_VALUES:
                self.assertFalse(put_in(value, (), zero) and value != 0)
                self.assertFalse(shows_none(terms, value))


if __name__ == "__main__":
    unittest.main()
