"""Sheets whose edges have colours, tabs and slots: books, the sewings that keep them, the bodies that they make.

A tab goes into a slot: two edges with tabs are not joined, nor two with slots.
"""

import random
import unittest

from drawn import drawn_sheet
from plain_bodies import plain_code
from plain_sheets import plain_sewings_of
from rimsewn.answers import kinds, many, nth, number_in, possible, word_of
from rimsewn.bodies import sewn
from rimsewn.books import Book
from rimsewn.cells import sheet_of
from rimsewn.check_books import shows_possible, shows_word
from rimsewn.check_common import shows_makes
from rimsewn.codes import code_of
from rimsewn.made import made, makes
from rimsewn.nestings import Nesting
from rimsewn.opened import cut_of, opened
from rimsewn.rims import Rim
from rimsewn.sayings import Joined
from rimsewn.sewn import Sewing


def tab_facts(tabs, slots):
    """The facts that no two tabs, and no two slots, are joined."""
    return [~Joined(one, other) for group in (tabs, slots) for at, one in enumerate(group) for other in group[at + 1:]]


def dressed(draw):
    """Sheets with colours of their edges, tabs and slots."""
    for kind in ("square", "triangle"):
        for _ in range(25):
            sheet = drawn_sheet(kind, draw.choice([2, 3, 4] if kind == "square" else [2, 4, 6]), draw, 0.3)
            if len(sheet) % 2 or len(sheet) > 10:
                continue
            colours = [draw.randrange(2) for _ in range(len(sheet))] if draw.random() < 0.7 else None
            edges = draw.sample(range(len(sheet)), 4)
            yield sheet, colours, edges[:2], edges[2:]


def keeps(row, colours, tabs, slots):
    """Whether a nesting joins edges of one colour, no tab with a tab, no slot with a slot."""
    return all((colours is None or colours[one] == colours[other]) and not (one in tabs and other in tabs)
               and not (one in slots and other in slots) for one, other in enumerate(row))


class ColouredTest(unittest.TestCase):
    def test_the_sewings_that_keep_them(self):
        counts = {True: 0, False: 0}
        for sheet, colours, tabs, slots in dressed(random.Random(1)):
            book = Book(Rim.of(sheet), tab_facts(tabs, slots), colours)
            right = [row for row in plain_sewings_of(sheet) if keeps(row, colours, tabs, slots)]
            counts[bool(right)] += 1
            self.assertEqual(many(book), len(right))
            paper = possible(book)
            self.assertIs(shows_possible(book, paper), True)
            self.assertEqual(sum(number for _, number in kinds(book)), len(right))
            if not right:
                self.assertFalse(paper)
                continue
            self.assertEqual(paper.partners, right[0])
            for number, row in enumerate(right):
                self.assertEqual(nth(book, number).partners, row)
                self.assertEqual(number_in(book, Nesting(row)), number)
            for row in plain_sewings_of(sheet):
                self.assertIs(book.keeps(Nesting(row)), row in right)
            saying = Joined(0, 1)
            self.assertIs(shows_word(book, saying, word_of(book, saying)), True)
        self.assertGreater(min(counts.values()), 5)

    def test_the_bodies_that_they_make(self):
        fewer = 0
        for sheet, colours, tabs, slots in dressed(random.Random(2)):
            book = Book(Rim.of(sheet), tab_facts(tabs, slots), colours)
            codes = [code for code, _ in made(sheet)]
            found = set()
            for number in range(many(book)):
                nesting = nth(book, number)
                body = sewn(sheet, nesting)
                self.assertIs(shows_makes(sheet, body, Sewing(nesting.partners)), True)
                self.assertTrue(makes(sheet, body))
                cut = cut_of(sheet, nesting)
                self.assertTrue(opened(cut) == sheet)
                # Each seam of the cut joins edges of one colour.
                edge_at = {side: edge for edge, side in enumerate(sheet.rim)}
                for seam in cut.seams:
                    one, other = [edge_at[side] for side in body.skin.seams[seam]]
                    self.assertTrue(colours is None or colours[one] == colours[other])
                    self.assertNotEqual({one, other}, set(tabs))
                    self.assertNotEqual({one, other}, set(slots))
                found.add(code_of(body))
            right = {plain_code(sewn(sheet, Nesting(row))) for row in plain_sewings_of(sheet) if keeps(row, colours, tabs, slots)}
            self.assertEqual(found, right)
            self.assertLessEqual(found, set(codes))
            fewer += len(found) < len(codes)
        self.assertGreater(fewer, 10)

    def test_a_strip_whose_ends_are_coloured(self):
        # Only the ends of the strip of four squares have colour 1: it is rolled up to a tube.
        strip = sheet_of("square", [(x, 0) for x in range(4)])
        ends = [strip.rim.index(side) for side in (3, 13)]
        colours = [1 if edge in ends else 0 for edge in range(len(strip))]
        book = Book(Rim.of(strip), [], colours)
        told = [nth(book, number) for number in range(many(book))]
        self.assertTrue(told)
        for nesting in told:
            self.assertEqual(nesting.partners[ends[0]], ends[1])
        self.assertEqual(word_of(book, Joined(*sorted(ends))).word, "always")
        # A tab at each end goes into no slot: then there is none.
        self.assertFalse(possible(book.with_fact(~Joined(*ends))))


if __name__ == "__main__":
    unittest.main()
