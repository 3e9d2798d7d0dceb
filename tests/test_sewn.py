"""The sewings of rims, against all nestings, and rims of 24 edges."""

import itertools
import unittest

from plain import ODD_VALUES, plain_kind, plain_sewings, raised, random_amounts, sewn_amounts
from rimsewn.nestings import Nesting
from rimsewn.papers import Denial
from rimsewn.rims import Rim
from rimsewn.sewn import Sewing, Unsewn, by_kinds, many_sewings, number_of, sew, sewing_at, sewings
from rimsewn.sums import is_sewing, kind_of
from tables import Rule

FULL = {"square": 4, "triangle": 6}
DOMINO = Rim("square", [1, 2, 1, 1, 2, 1])


def short_rims():
    for kind in FULL:
        for edges in (3, 4, 5, 6, 7, 8, 10):
            if (edges, kind) == (3, "square"):
                continue
            for seed in range(4):
                yield Rim(kind, random_amounts(kind, edges, seed))
            if edges % 2 == 0:
                yield Rim(kind, sewn_amounts(kind, edges, 7))
        yield Rim(kind, sewn_amounts(kind, 12, 3))


class SewnTest(unittest.TestCase):
    def test_against_all_nestings(self):
        with_one = without_one = 0
        for rim in short_rims():
            rows = plain_sewings(rim.amounts, rim.full)
            self.assertEqual(many_sewings(rim), len(rows))
            self.assertEqual([one.partners for one in sewings(rim)], rows)
            self.assertTrue(all(isinstance(one, Nesting) for one in sewings(rim)))
            for number, row in enumerate(rows):
                self.assertEqual(sewing_at(rim, number).partners, row)
                self.assertEqual(number_of(rim, Nesting(row)), number)
            kinds = [plain_kind(rim.amounts, rim.full, row) for row in rows]
            self.assertEqual(by_kinds(rim), tuple(sorted((kind, kinds.count(kind)) for kind in set(kinds))))
            paper = sew(rim)
            if rows:
                with_one += 1
                self.assertTrue(paper == Sewing(rows[0]))
                self.assertIs(bool(paper), True)
            else:
                without_one += 1
                self.assertIsInstance(paper, Unsewn)
                self.assertIs(bool(paper), False)
                self.assertTrue(Rule(rim).shows_none(paper.rows))
                self.assertEqual(by_kinds(rim), ())
            self.assertTrue(sew(rim) == paper)
        self.assertGreater(with_one, 15)
        self.assertGreater(without_one, 15)

    def test_all_short_rims_of_squares(self):
        for edges in (4, 6):
            for amounts in itertools.product(range(1, 6), repeat=edges):
                if 2 * sum(amounts) == 4 * (edges - 2):
                    rim = Rim("square", amounts)
                    rows = plain_sewings(amounts, 4)
                    self.assertEqual((many_sewings(rim), bool(sew(rim))), (len(rows), bool(rows)))
                    if not rows:
                        self.assertTrue(Rule(rim).shows_none(sew(rim).rows))

    def test_no_sewing(self):
        for rim in (Rim("triangle", [1, 1, 1]), Rim("square", [5, 1, 1, 1, 1, 1, 1, 1]), Rim("square", [1, 1, 1, 1, 2])):
            self.assertIsInstance(sew(rim), Denial)
            self.assertEqual((sew(rim).word, many_sewings(rim), list(sewings(rim)), by_kinds(rim)), ("unsewn", 0, [], ()))
            self.assertEqual(raised(sewing_at, rim, 0), ("BadNumber", "number"))
        self.assertEqual(raised(number_of, Rim("square", [5, 1, 1, 1, 1, 1, 1, 1]), Nesting([1, 0, 3, 2, 5, 4, 7, 6])),
                         ("BadNesting", "sewing"))

    def test_what_is_refused(self):
        for value in ODD_VALUES + (str(DOMINO), Nesting([1, 0])):
            for ask in (sew, many_sewings, sewings, by_kinds):
                self.assertEqual(raised(ask, value), ("BadRim", "rim"))
            for ask in (sewing_at, number_of):
                self.assertEqual(raised(ask, value, None), ("BadRim", "rim"))
        for value in ODD_VALUES + (5, -1, 10 ** 40):
            self.assertEqual(raised(sewing_at, DOMINO, value), ("BadNumber", "number"))
            self.assertEqual(raised(number_of, DOMINO, value), ("BadNesting", "nesting"))
        self.assertEqual(raised(number_of, DOMINO, Nesting([1, 0])), ("Misfit", "edges"))
        elbow = Rim("square", [1, 2, 1, 1, 3, 1, 1, 2])
        self.assertEqual(raised(number_of, elbow, Nesting.read("0-7 1-2 3-4 5-6")), ("BadNesting", "sewing"))

    def test_long_rims(self):
        for kind in FULL:
            for seed in range(4):
                rim = Rim(kind, sewn_amounts(kind, 24, seed))
                many = many_sewings(rim)
                self.assertGreaterEqual(many, 1)
                rows = [one.partners for one in sewings(rim)]
                self.assertEqual(rows, sorted(set(rows)))
                self.assertEqual(len(rows), many)
                self.assertEqual(sew(rim).partners, rows[0])
                for number in {0, many // 3, many - 1}:
                    nesting = sewing_at(rim, number)
                    self.assertTrue(is_sewing(rim, nesting))
                    self.assertEqual((nesting.partners, number_of(rim, nesting)), (rows[number], number))
                kinds = [kind_of(rim, Nesting(row)) for row in rows]
                self.assertEqual(by_kinds(rim), tuple(sorted((one, kinds.count(one)) for one in set(kinds))))
                self.assertEqual(many_sewings(rim.mirrored()), many)
                self.assertEqual(many_sewings(rim.turned(5)), many)

    def test_longest_rims(self):
        for kind in FULL:
            rim = Rim(kind, sewn_amounts(kind, 50, 1))
            self.assertGreaterEqual(many_sewings(rim), 1)
            self.assertEqual(number_of(rim, sewing_at(rim, many_sewings(rim) - 1)), many_sewings(rim) - 1)
            odd = Rim(kind, random_amounts(kind, 49, 1))
            self.assertEqual((many_sewings(odd), sew(odd).word), (0, "unsewn"))


if __name__ == "__main__":
    unittest.main()
