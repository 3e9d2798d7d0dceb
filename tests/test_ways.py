"""Ways and classes: against a search by single exchanges."""

import time
import unittest

from plain import ODD_VALUES, partner_rows, plain_sewings, raised, random_amounts, sewn_amounts
from plain_ways import plain_classes, sewings_beside, some_rims, steps_from
from rimsewn.exchanges import least_exchanges
from rimsewn.nestings import Nesting
from rimsewn.rims import Rim
from rimsewn.sewn import many_sewings, sewing_at
from rimsewn.ways import Parted, Way, classes, way

ELBOW = Rim("square", [1, 2, 1, 1, 3, 1, 1, 2])
LONE, END = Nesting.read("0-3 1-2 4-7 5-6"), Nesting.read("0-7 1-6 2-5 3-4")


class WayTest(unittest.TestCase):
    def test_between_all_sewings(self):
        counts = {True: 0, False: 0}
        longest = 0
        for rim in some_rims():
            beside = sewings_beside(rim)
            for one in list(beside)[::2]:
                steps = steps_from(beside, one)
                for other in list(beside)[::2]:
                    paper = way(rim, Nesting(one), Nesting(other))
                    counts[bool(paper)] += 1
                    self.assertIs(bool(paper), other in steps)
                    if other not in steps:
                        self.assertIsInstance(paper, Parted)
                        self.assertEqual(paper.parts, (tuple(sorted(steps)),))
                        self.assertEqual(paper.rows, tuple(sorted(steps)))
                        continue
                    self.assertIsInstance(paper, Way)
                    self.assertEqual(paper.parts, (paper.rows,))
                    self.assertEqual((paper.rows[0], paper.rows[-1]), (one, other))
                    self.assertEqual(len(paper.rows), steps[other] + 1)
                    for row, behind in zip(paper.rows, paper.rows[1:]):
                        self.assertIn(behind, beside[row])
                    longest = max(longest, len(paper.rows))
                    self.assertTrue(way(rim, Nesting(one), Nesting(other)) == paper)
        self.assertGreater(min(counts.values()), 20)
        self.assertGreater(longest, 3)

    def test_equal_sewings(self):
        self.assertEqual(way(ELBOW, LONE, LONE).rows, (LONE.partners,))
        self.assertEqual(way(ELBOW, END, Nesting(END.partners)).rows, (END.partners,))

    def test_where_fewer_exchanges_lead_through_what_is_no_sewing(self):
        # From sewing to sewing a way can be longer than through any nestings, or be none.
        longer = 0
        for rim in some_rims():
            rows = plain_sewings(rim.amounts, rim.full)
            for row in rows[1:]:
                paper = way(rim, Nesting(rows[0]), Nesting(row))
                least = least_exchanges(Nesting(rows[0]), Nesting(row))
                if paper:
                    self.assertGreaterEqual(len(paper.rows) - 1, least)
                    longer += len(paper.rows) - 1 > least
        self.assertGreater(longer, 0)

    def test_no_sewings(self):
        no_sewing = Nesting.read("0-7 1-2 3-4 5-6")
        for value in ODD_VALUES + (LONE.partners, str(LONE), no_sewing, Nesting([1, 0]), Nesting([1, 0, 3, 2, 5, 4, 7, 6, 9, 8])):
            self.assertEqual(raised(way, ELBOW, value, None), ("BadNesting", "one"))
            self.assertEqual(raised(way, ELBOW, LONE, value), ("BadNesting", "other"))
        for value in ODD_VALUES + (ELBOW.amounts, str(ELBOW)):
            self.assertEqual(raised(way, value, None, None), ("BadRim", "rim"))

    def test_by_name(self):
        self.assertEqual(way(rim=ELBOW, one=LONE, other=END).rows, (LONE.partners,))


class ClassesTest(unittest.TestCase):
    def test_against_a_search(self):
        counts = {1: 0, 2: 0, 3: 0}
        for rim in some_rims():
            told = classes(rim)
            self.assertEqual(told, plain_classes(rim))
            counts[min(len(told), 3)] += 1
            self.assertEqual(sum(len(group) for group in told), many_sewings(rim))
        self.assertGreater(min(counts.values()), 3)

    def test_no_sewing_at_all(self):
        self.assertEqual(classes(Rim("triangle", [1, 1, 1])), ())
        self.assertEqual(classes(Rim("square", [5, 1, 1, 1, 1, 1, 1, 1])), ())

    def test_all_nestings(self):
        # Where each nesting is a sewing there is one class.
        self.assertEqual(classes(Rim("square", [1, 1, 1, 1])), (tuple(partner_rows(4)),))

    def test_rims_of_24_edges_in_a_short_time(self):
        begin = time.perf_counter()
        for kind in ("square", "triangle"):
            for seed in range(6):
                rim = Rim(kind, sewn_amounts(kind, 24, seed))
                told = classes(rim)
                many = many_sewings(rim)
                self.assertEqual(sum(len(group) for group in told), many)
                one, other = sewing_at(rim, 0), sewing_at(rim, many - 1)
                paper = way(rim, one, other)
                group = [group for group in told if one.partners in group][0]
                self.assertIs(bool(paper), other.partners in group)
                if not paper:
                    self.assertEqual(paper.rows, group)
            self.assertEqual(raised(classes, Rim(kind, random_amounts(kind, 24, 1))), None)
        self.assertLess(time.perf_counter() - begin, 20)

    def test_no_rim(self):
        for value in ODD_VALUES + (ELBOW.amounts, str(ELBOW)):
            self.assertEqual(raised(classes, value), ("BadRim", "rim"))


if __name__ == "__main__":
    unittest.main()
