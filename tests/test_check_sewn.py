"""Whether a value shows what can be sewn: right papers, and bent ones."""

import random
import unittest

from plain import ODD_VALUES, partner_rows, plain_sewings, raised, random_amounts
from rimsewn.answers import Always, Both, Never
from rimsewn.check_sewn import shows_sewn
from rimsewn.papers import Denial, Paper
from rimsewn.rims import Rim
from rimsewn.sewn import Sewing, Unsewn, sew
from tables import Rule

DOMINO = Rim("square", [1, 2, 1, 1, 2, 1])
LONE = Rim("triangle", [1, 1, 1])
HARD = Rim("square", [5, 1, 1, 1, 1, 1, 1, 1])


class Sewing2(Sewing):
    """A class below that of the right papers."""


class Unsewn2(Unsewn):
    """A class below that of the right papers."""


def hopeless():
    """Rims without a sewing."""
    for kind in ("square", "triangle"):
        for edges in (4, 5, 6, 7, 8, 10):
            for seed in range(20):
                rim = Rim(kind, random_amounts(kind, edges, seed))
                if edges % 2 == 1 and seed < 2 or edges % 2 == 0 and not plain_sewings(rim.amounts, rim.full):
                    yield rim
    yield HARD
    yield LONE


def with_row(rows, at, row):
    return rows[:at] + row + rows[at + 1:]


class CheckSewnTest(unittest.TestCase):
    def test_sewings(self):
        for kind in ("square", "triangle"):
            for edges in (4, 6, 8):
                for seed in range(3):
                    rim = Rim(kind, random_amounts(kind, edges, seed))
                    right = plain_sewings(rim.amounts, rim.full)
                    for row in partner_rows(edges):
                        self.assertIs(shows_sewn(rim, Sewing(list(row))), row in right)

    def test_bent_partners(self):
        for value in ODD_VALUES + ([1, 0], [1, 0, 3, 2], [1, 0, 3, 2, 5, 4, 7, 6], [2, 3, 0, 1, 5, 4], [0, 1, 2, 3, 4, 5],
                                   [1, 0, 3, 2, 5], [1, 0, 3, 2, 4, 5], [1, 0, 3, 2, 5, "4"], [True, 0, 3, 2, 5, 4],
                                   [1, False, 3, 2, 5, 4], [1, 0.0, 3, 2, 5, 4], [[1, 0, 3, 2, 5, 4]], "103254"):
            self.assertIs(shows_sewn(DOMINO, Sewing(value)), False)
        self.assertIs(shows_sewn(DOMINO, Sewing((1, 0, 3, 2, 5, 4))), True)

    def test_other_classes(self):
        right = [1, 0, 3, 2, 5, 4]
        for made in (lambda parts: Paper("sewing", parts), Sewing2, Unsewn, Always, lambda parts: Both(parts, parts),
                     lambda parts: Denial("sewing", parts)):
            self.assertIs(shows_sewn(DOMINO, made(right)), False)
        rows = sew(LONE).rows
        self.assertIs(shows_sewn(LONE, Unsewn(rows)), True)
        for made in (Unsewn2, Never, Always, Sewing, lambda parts: Denial("unsewn", parts), tuple, list):
            self.assertIs(shows_sewn(LONE, made(rows)), False)
        for value in ODD_VALUES + (right, tuple(right), Sewing, Unsewn):
            self.assertIs(shows_sewn(DOMINO, value), False)

    def test_right_tables(self):
        for rim in hopeless():
            paper = sew(rim)
            self.assertIs(shows_sewn(rim, paper), True)
            draw = random.Random(1)
            told = [(i, j, draw.sample(entries + entries, 2 * len(entries))) for i, j, entries in paper.rows]
            self.assertIs(shows_sewn(rim, Unsewn(told)), True)

    def test_entries_left_out_and_put_in(self):
        both = {True: 0, False: 0}
        for rim in hopeless():
            if len(rim) > 8:
                continue
            rows = sew(rim).rows
            rule = Rule(rim)
            for at, (i, j, entries) in enumerate(rows):
                changed = [entries[:k] + entries[k + 1:] for k in range(len(entries))]
                changed += [entries + ((total, (), ()),) for total in range(rim.full + 1)]
                for row in changed:
                    bent = with_row(rows, at, ((i, j, row),))
                    told = shows_sewn(rim, Unsewn(bent))
                    self.assertIs(told, rule.shows_none(bent))
                    both[told] += 1
        self.assertGreater(both[True], 100)
        self.assertGreater(both[False], 100)

    def test_all_entries_everywhere(self):
        # Entries more never make a table show that there is none.
        rows = tuple((i, j, tuple((total, (), ()) for total in range(5))) for i, j in Rule(DOMINO).stretches())
        self.assertIs(shows_sewn(DOMINO, Unsewn(rows)), False)
        odd = Rim("square", [1, 1, 1, 1, 2])
        rows = tuple((i, j, tuple((total, (), ()) for total in range(5))) for i, j in Rule(odd).stretches())
        self.assertIs(shows_sewn(odd, Unsewn(rows)), True)
        empty = tuple((i, j, ()) for i, j in Rule(HARD).stretches())
        self.assertIs(shows_sewn(HARD, Unsewn(empty)), False)

    def test_bent_rows(self):
        for rim in (LONE, HARD):
            rows = sew(rim).rows
            self.assertIs(shows_sewn(rim, Unsewn(rows)), True)
            for at, (i, j, entries) in enumerate(rows):
                put_in = [(i, j, entries + (entry,)) for entry in (
                    (rim.full + 1, (), ()), (-1, (), ()), (True, (), ()), (False, (), ()), (None, (), ()), ("0", (), ()),
                    (0.0, (), ()), (0, ()), (0, (), (), ()), (0, (0,), ()), (0, (i + 1,), ()), (0, (), (0,)),
                    (0, (), (0,) * (rim.full - 1)), (0, None, ()), (0, (), None), (0, "", ()), (0, {}, ()), 0, None, (), "abc")]
                others = [(i, j), (i, j, entries, ()), (j, i, entries), (i, j + 2, entries), (i, None, entries),
                          (float(i), j, entries), (i, j, None), (i, j, 0), (i, j, {}), None, 0, (), "abc", (i, str(j), entries)]
                if i <= 1:
                    others.append((bool(i), j, entries))
                for row in put_in + others:
                    self.assertIs(shows_sewn(rim, Unsewn(with_row(rows, at, (row,)))), False, row)
                self.assertIs(shows_sewn(rim, Unsewn(with_row(rows, at, ()))), False)
                self.assertIs(shows_sewn(rim, Unsewn(with_row(rows, at, (rows[at], rows[at])))), False)
            self.assertIs(shows_sewn(rim, Unsewn(rows[::-1])), False)
            self.assertIs(shows_sewn(rim, Unsewn(rows + ((0, 0, ((0, (), ()),)),))), False)
            self.assertIs(shows_sewn(rim, Unsewn(((0, 0, ((0, (), ()),)),) + rows)), False)
            for value in ODD_VALUES:
                self.assertIs(shows_sewn(rim, Unsewn(value)), False)

    def test_sewing_where_there_is_none(self):
        self.assertIs(shows_sewn(LONE, Sewing([1, 0, 2])), False)
        self.assertIs(shows_sewn(HARD, Sewing([1, 0, 3, 2, 5, 4, 7, 6])), False)
        full_table = tuple((i, j, tuple(sorted({entry for entry in Rule(DOMINO).made(lambda a, b: ((0, (), ()),), i, j)})))
                           for i, j in Rule(DOMINO).stretches())
        self.assertIs(shows_sewn(DOMINO, Unsewn(full_table)), False)

    def test_no_rim(self):
        for value in ODD_VALUES + (str(DOMINO), DOMINO.amounts):
            self.assertEqual(raised(shows_sewn, value, None), ("BadRim", "rim"))


if __name__ == "__main__":
    unittest.main()
