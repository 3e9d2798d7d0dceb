"""Whether a value shows what is sure of a book: right papers, and bent ones."""

import random
import unittest

from plain import ODD_VALUES, partner_rows, raised, sewn_amounts
from rimsewn.answers import Always, Both, Never, possible, word_of
from rimsewn.books import Book
from rimsewn.check_books import shows_clash, shows_offer, shows_possible, shows_word
from rimsewn.clashes import Clash, clash
from rimsewn.nestings import Nesting
from rimsewn.offers import Offer, offer
from rimsewn.papers import Denial, Paper
from rimsewn.rims import Rim
from rimsewn.sayings import Bears, Joined, Meet, Places, Tips
from rimsewn.sewn import Sewing, Unsewn
from tables import Rule, plain_holds, plain_kept
from test_answers import some_book, some_saying

DOMINO = Rim("square", [1, 2, 1, 1, 2, 1])
NONE = Book(DOMINO, [Meet(0, 2), Meet(1, 3)])
ROWS_OF_NONE = possible(NONE).rows
FOUR_MARKS = Book(DOMINO, [Bears(corner, 1, 4) for corner in range(4)])


class Sewing2(Sewing):
    """A class below that of the right papers."""


class Unsewn2(Unsewn):
    """A class below that of the right papers."""


class Never2(Never):
    """A class below that of the right papers."""


class Always2(Always):
    """A class below that of the right papers."""


class Both2(Both):
    """A class below that of the right papers."""


class Clash2(Clash):
    """A class below that of the right papers."""


class Offer2(Offer):
    """A class below that of the right papers."""


def bent_rows(rows, rule):
    """Rows with something changed; whether they are still right is for the rule to tell."""
    for at, (i, j, entries) in enumerate(rows):
        for k in range(len(entries)):
            yield rows[:at] + ((i, j, entries[:k] + entries[k + 1:]),) + rows[at + 1:]
        total, marks, kind = (entries or ((0, (), rule.zero),))[0]
        for entry in [(n, marks, kind) for n in range(rule.full + 2)] + [(total, rule.marks[:1], kind), (total, marks, (9,) * len(kind))]:
            entry = (entry[0], tuple(entry[1]), entry[2])
            yield rows[:at] + ((i, j, entries + (entry,)),) + rows[at + 1:]
        yield rows[:at] + ((i, j, entries[::-1] + entries),) + rows[at + 1:]
        yield rows[:at] + rows[at + 1:]
        yield rows[:at] + (rows[at],) + rows[at:]
        yield rows[:at] + rows[at + 1:at + 2] + (rows[at],) + rows[at + 2:]
        yield rows[:at] + ((j, i, entries),) + rows[at + 1:]


def wrong_entries(zero):
    """Entries that are none, for a stretch (1, 5) of a book with the marks 1, 2, 3, 4."""
    yield from ((5, (), zero), (-1, (), zero), (True, (), zero), (None, (), zero), ("0", (), zero), (0.0, (), zero),
                (0, (5,), zero), (0, (1,), zero), (0, (3, 2), zero), (0, (2, 2), zero), (0, (True,), zero), (0, None, zero),
                (0, (), zero + (0,)), (0, (), None), (0, ()), (0, (), zero, ()), None, 0, "abc", (), [0], {},
                (0, (), (-1,) * max(1, len(zero))), (0, (), (False,) * max(1, len(zero))))


class PossibleTest(unittest.TestCase):
    def test_what_possible_returns(self):
        found = {True: 0, False: 0}
        for seed in range(150):
            book, corners, draw = some_book(30000 + seed)
            paper = possible(book)
            found[bool(paper)] += 1
            self.assertIs(shows_possible(book, paper), True)
        self.assertGreater(min(found.values()), 20)

    def test_partners_of_any_nesting(self):
        for seed in range(60):
            book, corners, draw = some_book(31000 + seed, (4, 6, 8))
            kept = plain_kept(book.rim, book.facts, book.colours)
            for row in partner_rows(len(book.rim)):
                self.assertIs(shows_possible(book, Sewing(list(row))), row in kept)

    def test_bent_tables(self):
        both = {True: 0, False: 0}
        for seed in range(120):
            book, corners, draw = some_book(32000 + seed, (4, 6))
            paper = possible(book)
            if paper:
                continue
            rule = Rule(book.rim, book.facts, book.colours)
            for rows in bent_rows(paper.rows, rule):
                told = shows_possible(book, Unsewn(rows))
                self.assertIs(told, rule.shows_none(rows))
                both[told] += 1
        self.assertGreater(both[True], 200)
        self.assertGreater(both[False], 200)

    def test_entries_that_are_none(self):
        for book in (NONE, Book(DOMINO, [Meet(2, 4), Meet(1, 3), Tips(0, 9)])):
            rows = possible(book).rows
            zero = Rule(book.rim, book.facts).zero
            at = [row[:2] for row in rows].index((1, 5))
            self.assertIs(shows_possible(book, Unsewn(rows)), True)
            for entry in wrong_entries(zero):
                bent = rows[:at] + ((1, 5, rows[at][2] + (entry,)),) + rows[at + 1:]
                self.assertIs(shows_possible(book, Unsewn(bent)), False, entry)

    def test_other_values(self):
        book = Book(DOMINO, [Bears(1, 3, 4)])
        right = possible(book).partners
        for value in ODD_VALUES + (right, Sewing2(right), Paper("sewing", right), Unsewn(right), Denial("unsewn", ROWS_OF_NONE), Unsewn2(ROWS_OF_NONE),
                                   Never(ROWS_OF_NONE), Always(ROWS_OF_NONE), Sewing, Unsewn):
            self.assertIs(shows_possible(book, value), False)
            self.assertIs(shows_possible(NONE, value), False)
        for value in ODD_VALUES + ([1, 0], [True, 0, 3, 2, 5, 4], [2, 3, 0, 1, 5, 4], "103254", [3.0, 2, 1, 0, 5, 4]):
            self.assertIs(shows_possible(book, Sewing(value)), False)
            self.assertIs(shows_possible(NONE, Unsewn(value)), False)
        self.assertIs(shows_possible(NONE, Unsewn(ROWS_OF_NONE)), True)
        self.assertIs(shows_possible(book, Unsewn(ROWS_OF_NONE)), False)

    def test_no_book(self):
        for value in ODD_VALUES + (DOMINO,):
            self.assertEqual(raised(shows_possible, value, None), ("BadBook", "book"))
            self.assertEqual(raised(shows_word, value, None, None), ("BadBook", "book"))
            self.assertEqual(raised(shows_clash, value, None), ("BadBook", "book"))
            self.assertEqual(raised(shows_offer, value, None, None), ("BadBook", "book"))


class WordTest(unittest.TestCase):
    def test_what_word_of_returns(self):
        found = {"always": 0, "never": 0, "both": 0}
        for seed in range(300):
            book, corners, draw = some_book(33000 + seed)
            if not possible(book):
                continue
            saying = some_saying(book.rim, draw, corners)
            paper = word_of(book, saying)
            found[paper.word] += 1
            self.assertIs(shows_word(book, saying, paper), True)
            self.assertIs(shows_word(book, ~saying, paper), False)
            if paper.word != "both":
                opposite = Never(paper.rows) if paper.word == "always" else Always(paper.rows)
                self.assertIs(shows_word(book, saying, opposite), False)
                self.assertIs(shows_word(book, ~saying, opposite), True)
        self.assertGreater(min(found.values()), 20)

    def test_partners_of_any_two_nestings(self):
        for seed in range(25):
            book, corners, draw = some_book(34000 + seed, (4, 6))
            saying = some_saying(book.rim, draw, corners)
            kept = plain_kept(book.rim, book.facts, book.colours)
            for one in partner_rows(len(book.rim)):
                for other in partner_rows(len(book.rim)):
                    right = one in kept and other in kept and plain_holds(saying, book.rim, one) and not plain_holds(saying, book.rim, other)
                    self.assertIs(shows_word(book, saying, Both(one, other)), right)

    def test_bent_tables(self):
        both = {True: 0, False: 0}
        for seed in range(120):
            book, corners, draw = some_book(35000 + seed, (4, 6))
            saying = some_saying(book.rim, draw, corners)
            if not possible(book):
                continue
            paper = word_of(book, saying)
            if paper.word == "both":
                continue
            made = Always if paper.word == "always" else Never
            put_in = ~saying if made == Always else saying
            rule = Rule(book.rim, book.facts + (put_in,), book.colours)
            for rows in bent_rows(paper.rows, rule):
                told = shows_word(book, saying, made(rows))
                self.assertIs(told, rule.shows_none(rows))
                both[told] += 1
        self.assertGreater(min(both.values()), 200)

    def test_of_a_book_that_is_not_possible(self):
        self.assertIs(shows_word(NONE, Tips(0, 9), Always(possible(NONE.with_fact(~Tips(0, 9))).rows)), True)
        self.assertIs(shows_word(NONE, Tips(0, 9), Never(possible(NONE.with_fact(Tips(0, 9))).rows)), True)
        self.assertIs(shows_word(NONE, Joined(0, 1), Always(ROWS_OF_NONE)), True)
        self.assertIs(shows_word(NONE, Joined(0, 1), Never(ROWS_OF_NONE)), True)
        self.assertIs(shows_word(NONE, Joined(0, 1), Both([1, 0, 3, 2, 5, 4], [5, 4, 3, 2, 1, 0])), False)

    def test_other_values(self):
        book = Book(DOMINO, [Bears(1, 3, 4)])
        rows = word_of(book, Meet(0, 2)).rows
        self.assertIs(shows_word(book, Meet(0, 2), Never(rows)), True)
        for value in ODD_VALUES + (rows, Always(rows), Never2(rows), Unsewn(rows), Denial("never", rows), Both(rows, rows), Never):
            self.assertIs(shows_word(book, Meet(0, 2), value), False)
        rows = word_of(book, ~Meet(0, 2)).rows
        self.assertIs(shows_word(book, ~Meet(0, 2), Always(rows)), True)
        for value in (rows, Never(rows), Always2(rows), Unsewn(rows), Paper("always", rows)):
            self.assertIs(shows_word(book, ~Meet(0, 2), value), False)
        book = Book(DOMINO)
        one, other = word_of(book, Joined(0, 1)).parts
        self.assertIs(shows_word(book, Joined(0, 1), Both(one, other)), True)
        for value in (Both(other, one), Both2(one, other), Paper("both", one, other), Both(one, None), Both(None, other),
                      Both(one, one), Both(one, [1, 0]), Both([True] + list(one[1:]), other), Both([one], other)):
            self.assertIs(shows_word(book, Joined(0, 1), value), False)
        for value in ODD_VALUES:
            self.assertIs(shows_word(book, Joined(0, 1), Both(value, value)), False)
            self.assertIs(shows_word(book, Meet(0, 2), Never(value)), False)
            self.assertIs(shows_word(book, Meet(0, 2), Always(value)), False)

    def test_what_is_refused_in_order(self):
        for value in ODD_VALUES + ("meet 0 2",):
            self.assertEqual(raised(shows_word, FOUR_MARKS, value, None), ("BadSaying", "saying"))
        for saying, error in ((Joined(0, 6), ("NoEdge", 6)), (~Meet(7, 0), ("NoCorner", 7)), (Places(4, 0, 1), ("BadSaying", "amount")),
                              (Bears(4, 0, 4), ("TooMany", "marks", 4)), (~Bears(4, 0, 4), ("TooMany", "marks", 4)), (Bears(3, 0, 4), None)):
            self.assertEqual(raised(shows_word, FOUR_MARKS, saying, None), error)
        # A book that is not possible is not refused.
        self.assertIs(shows_word(NONE, Tips(0, 9), None), False)


class ClashTest(unittest.TestCase):
    def test_what_clash_returns(self):
        found = 0
        for seed in range(200):
            book, corners, draw = some_book(36000 + seed)
            paper = clash(book)
            self.assertIs(shows_clash(book, None), False)
            if paper is not None:
                found += 1
                self.assertIs(shows_clash(book, paper), True)
        self.assertGreater(found, 30)

    def test_another_clash(self):
        book = Book(DOMINO, [Joined(0, 1), Meet(0, 2), Meet(1, 3)])
        self.assertEqual(clash(book).numbers, (0, 2))
        spared = [plain_kept(DOMINO, [Meet(1, 3)])[0], plain_kept(DOMINO, [Meet(0, 2)])[0]]
        self.assertIs(shows_clash(book, Clash([1, 2], ROWS_OF_NONE, spared)), True)
        self.assertIs(shows_clash(book, Clash([1, 2], ROWS_OF_NONE, spared[::-1])), False)
        # All three clash, too, but one can be spared: without fact 1 nothing keeps the others.
        self.assertIs(shows_clash(book, Clash([0, 1, 2], ROWS_OF_NONE, [spared[0], spared[0], spared[1]])), False)

    def test_numbers_and_spared(self):
        book = Book(DOMINO, [Joined(0, 1), Tips(0, 9), ~Joined(0, 1)])
        paper = clash(book)
        numbers, rows, spared = paper.parts
        self.assertEqual(numbers, (0, 2))
        self.assertIs(shows_clash(book, Clash(list(numbers), rows, [list(row) for row in spared])), True)
        for value in ((2, 0), (0, 1), (0,), (2,), (0, 0), (0, 1, 2), (0, 3), (-1, 2), (False, 2), (0.0, 2), (), None, "02", 0, ((0, 2),), {}):
            self.assertIs(shows_clash(book, Clash(value, rows, spared)), False, value)
        # Out of order, or told twice, though all else is right.
        self.assertIs(shows_clash(book, Clash((2, 0), rows, spared[::-1])), False)
        self.assertIs(shows_clash(book, Clash((0, 0, 2), rows, (spared[0], spared[0], spared[1]))), False)
        self.assertIs(shows_clash(book, Clash((0, 2, 2), rows, (spared[0], spared[1], spared[1]))), False)
        for value in (spared[::-1], spared[:1], spared + spared[:1], (spared[0], spared[0]), (spared[0], None), ((1, 0), spared[1]), None,
                      (), (spared[1], spared[1]), "ab", {}, (spared[0], (True,) + spared[1][1:])):
            self.assertIs(shows_clash(book, Clash(numbers, rows, value)), False, value)
        for value in ODD_VALUES + (rows[1:], rows[::-1], rows + rows[:1]):
            self.assertIs(shows_clash(book, Clash(numbers, value, spared)), False, value)
        # Each partners may be those of any sewing that keeps the others.
        for row in plain_kept(DOMINO, [~Joined(0, 1)]):
            self.assertIs(shows_clash(book, Clash(numbers, rows, [row, spared[1]])), True)
        for row in plain_kept(DOMINO, [Joined(0, 1)]):
            self.assertIs(shows_clash(book, Clash(numbers, rows, [row, spared[1]])), False)
            self.assertIs(shows_clash(book, Clash(numbers, rows, [spared[0], row])), True)

    def test_bent_tables(self):
        both = {True: 0, False: 0}
        for seed in range(80):
            book, corners, draw = some_book(37000 + seed, (4, 6))
            paper = clash(book)
            if paper is None:
                continue
            rule = Rule(book.rim, [book.facts[number] for number in paper.numbers], book.colours)
            for rows in bent_rows(paper.rows, rule):
                told = shows_clash(book, Clash(paper.numbers, rows, paper.spared))
                self.assertIs(told, rule.shows_none(rows))
                both[told] += 1
        self.assertGreater(min(both.values()), 100)

    def test_without_facts(self):
        book = Book(DOMINO, [Tips(0, 9)], [1, 1, 1, 2, 3, 3])
        paper = clash(book)
        self.assertEqual((paper.numbers, paper.spared), ((), ()))
        self.assertIs(shows_clash(book, paper), True)
        self.assertIs(shows_clash(Book(DOMINO, [Tips(0, 9)]), paper), False)

    def test_other_values(self):
        paper = clash(NONE)
        for value in ODD_VALUES + (paper.parts, Clash2(*paper.parts), Paper("clash", *paper.parts), Unsewn(ROWS_OF_NONE), Clash):
            self.assertIs(shows_clash(NONE, value), False)
        self.assertIs(shows_clash(Book(DOMINO), paper), False)


class OfferTest(unittest.TestCase):
    def test_what_offer_returns(self):
        for seed in range(80):
            book, corners, draw = some_book(38000 + seed)
            sayings = [some_saying(book.rim, draw, corners) for _ in range(draw.choice([1, 2, 4]))]
            if not possible(book):
                continue
            paper = offer(book, sayings)
            self.assertIs(shows_offer(book, sayings, paper), True)
            self.assertIs(shows_offer(book, tuple(sayings), Offer(paper.number, [list(pair) for pair in paper.counts])), True)
            for at, (one, other) in enumerate(paper.counts):
                for pair in ((one + 1, other), (one, other - 1), (other + 1, one + 1), (one,), (one, other, 0), None, "ab", (None, other)):
                    bent = paper.counts[:at] + (pair,) + paper.counts[at + 1:]
                    self.assertIs(shows_offer(book, sayings, Offer(paper.number, bent)), False)
            for number in (paper.number + 1, -1, None, "0", paper.number + 0.0, (paper.number,)):
                self.assertIs(shows_offer(book, sayings, Offer(number, paper.counts)), False)
            for counts in (paper.counts[1:], paper.counts + ((0, 0),), None, 0, {}, (paper.counts,)):
                self.assertIs(shows_offer(book, sayings, Offer(paper.number, counts)), False)

    def test_true_and_false_are_no_numbers(self):
        sayings = [Joined(0, 1), ~Joined(0, 5)]
        book = Book(DOMINO, [Joined(0, 1), Joined(2, 3)])
        self.assertEqual(offer(book, sayings).parts, (0, ((1, 0), (1, 0))))
        self.assertIs(shows_offer(book, sayings, Offer(0, [(1, 0), (1, 0)])), True)
        for number, counts in ((False, [(1, 0), (1, 0)]), (0, [(True, 0), (1, 0)]), (0, [(1, 0), (1, False)]), (0.0, [(1, 0), (1, 0)])):
            self.assertIs(shows_offer(book, sayings, Offer(number, counts)), False)
        # Of several the first one is told.
        self.assertIs(shows_offer(book, sayings, Offer(1, [(1, 0), (1, 0)])), False)

    def test_of_a_book_that_is_not_possible(self):
        self.assertIs(shows_offer(NONE, [Tips(0, 9), Joined(0, 1)], Offer(0, [(0, 0), (0, 0)])), True)
        self.assertIs(shows_offer(NONE, [Tips(0, 9), Joined(0, 1)], Offer(0, [(0, 0), (0, 1)])), False)

    def test_other_values(self):
        sayings = [Joined(0, 1), Bears(1, 3, 4), Tips(4, 4)]
        right = offer(Book(DOMINO), sayings)
        for value in ODD_VALUES + (right.parts, Offer2(*right.parts), Paper("offer", *right.parts), Clash(*right.parts, ()), Offer):
            self.assertIs(shows_offer(Book(DOMINO), sayings, value), False)
        self.assertIs(shows_offer(Book(DOMINO), sayings, right), True)
        self.assertIs(shows_offer(Book(DOMINO), sayings[::-1], right), False)

    def test_what_is_refused_in_order(self):
        for value in ODD_VALUES + ([Tips(0, 1), None], "tips 0 1", Tips(0, 1)):
            self.assertEqual(raised(shows_offer, NONE, value, None), ("BadSaying", "sayings"))
        for book, sayings, error in ((NONE, [Tips(0, 1), Places(4, 0, 1), Joined(0, 9)], ("BadSaying", "amount")),
                                     (NONE, [Tips(0, 1)] * 13 + [~Joined(0, 9)], ("NoEdge", 9)),
                                     (NONE, [Tips(0, 1)] * 13, ("TooMany", "sayings", 12)),
                                     (FOUR_MARKS, [Bears(4, 0, 1)] * 13, ("TooMany", "sayings", 12)),
                                     (FOUR_MARKS, [Tips(0, 1), Bears(4, 0, 1)], ("TooMany", "marks", 4)),
                                     (NONE, [Tips(0, 1)] * 12, None)):
            self.assertEqual(raised(shows_offer, book, sayings, None), error)


class LongTest(unittest.TestCase):
    def test_long_rims(self):
        draw = random.Random(4)
        for kind in ("square", "triangle"):
            rim = Rim(kind, sewn_amounts(kind, 24, 1))
            row = possible(Book(rim)).partners
            book = Book(rim, [Joined(0, row[0]), ~Joined(5, row[5])])
            self.assertIs(shows_possible(book, possible(book)), True)
            both = Book(rim, [Joined(0, row[0]), ~Joined(0, row[0])])
            self.assertIs(shows_possible(both, possible(both)), True)
            self.assertIs(shows_clash(both, clash(both)), True)
            saying = Joined(3, 3 + draw.choice([1, 3, 5]))
            if possible(book):
                self.assertIs(shows_word(book, saying, word_of(book, saying)), True)
            self.assertIs(shows_possible(Book(rim), Sewing(Nesting(row).partners)), True)


if __name__ == "__main__":
    unittest.main()
