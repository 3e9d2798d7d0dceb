"""Exchanges and rings: against all two pairs of drawn nestings, and a search through all nestings."""

import random
import unittest

from plain import ODD_VALUES, corner_places, partner_rows, plain_kind, plain_sewings, raised, random_amounts, random_row, sewn_amounts, sums_of
from plain_ways import crossing, other_way, plain_beside, steps_from
from rimsewn.exchanges import exchanged, exchanges, least_exchanges, like_exchanges, rings, sewn_exchanges
from rimsewn.nestings import Nesting
from rimsewn.rims import Rim

FLAP, POCKET = Nesting.read("0-1 2-3 4-5"), Nesting.read("0-1 2-5 3-4")
NO_EDGES = (None, True, False, -1, 1.0, "0", [], (0,), {}, object(), 6, 10 ** 30)


def drawn_rows(draw, edges=(2, 4, 6, 8, 10, 14, 20, 30, 50)):
    for many in edges:
        for _ in range(4):
            yield random_row(many, draw)


class ExchangedTest(unittest.TestCase):
    def test_all_two_pairs(self):
        draw = random.Random(1)
        counts = {True: 0, False: 0}
        for row in drawn_rows(draw, (2, 4, 6, 8, 12, 16)):
            nesting = Nesting(row)
            for one in range(len(row)):
                for other in range(len(row)):
                    if other in (one, row[one]):
                        self.assertEqual(raised(exchanged, nesting, one, other), ("Twice", other))
                        continue
                    wanted = other_way(row, one, other)
                    wrong = crossing(wanted)
                    counts[wrong is None] += 1
                    if wrong is None:
                        told = exchanged(nesting, one, other)
                        self.assertIsInstance(told, Nesting)
                        self.assertEqual(told.partners, wanted)
                    else:
                        self.assertEqual(raised(exchanged, nesting, one, other), ("Crossing",) + wrong)
                        self.assertEqual(raised(Nesting, wanted), ("Crossing",) + wrong)
        self.assertGreater(min(counts.values()), 100)

    def test_it_is_taken_back(self):
        draw = random.Random(2)
        for row in drawn_rows(draw):
            nesting = Nesting(row)
            for other in exchanges(nesting):
                self.assertIn(nesting.partners, [back.partners for back in exchanges(other)])

    def test_places(self):
        # One place is parted in two, two become one.
        draw = random.Random(3)
        for row in drawn_rows(draw):
            before = set(corner_places(row))
            for other in exchanges(Nesting(row)):
                behind = set(corner_places(other.partners))
                lost, won = before - behind, behind - before
                self.assertEqual((len(lost), len(won)), (3, 3))
                self.assertEqual(sorted(sum(lost, ())), sorted(sum(won, ())))

    def test_what_is_refused_in_order(self):
        for value in ODD_VALUES + (FLAP.partners, str(FLAP)):
            self.assertEqual(raised(exchanged, value, None, None), ("BadNesting", "nesting"))
        for value in NO_EDGES:
            self.assertEqual(raised(exchanged, FLAP, value, None), ("NoEdge", value))
            self.assertEqual(raised(exchanged, FLAP, 0, value), ("NoEdge", value))
        self.assertEqual(raised(exchanged, FLAP, 7, 8), ("NoEdge", 7))
        self.assertEqual(raised(exchanged, FLAP, 2, 2), ("Twice", 2))
        self.assertEqual(raised(exchanged, FLAP, 2, 3), ("Twice", 3))
        self.assertEqual(raised(exchanged, POCKET, 0, 3), ("Crossing", 0, 2))
        self.assertEqual(raised(exchanged, POCKET, 4, 1), ("Crossing", 0, 2))


class ExchangesTest(unittest.TestCase):
    def test_all_of_them(self):
        for many in (2, 4, 6, 8):
            for row in partner_rows(many):
                told = exchanges(Nesting(row))
                self.assertIsInstance(told, tuple)
                self.assertEqual([other.partners for other in told], plain_beside(row))
        draw = random.Random(4)
        for row in drawn_rows(draw):
            told = exchanges(Nesting(row))
            self.assertEqual([other.partners for other in told], plain_beside(row))
            self.assertTrue(all(isinstance(other, Nesting) for other in told))

    def test_two_edges(self):
        self.assertEqual(exchanges(Nesting([1, 0])), ())
        self.assertEqual(sewn_exchanges(Rim("square", [1, 1, 1, 1]), Nesting([1, 0, 3, 2])), (Nesting([3, 2, 1, 0]),))

    def test_no_nesting(self):
        for value in ODD_VALUES + (FLAP.partners, str(FLAP)):
            self.assertEqual(raised(exchanges, value), ("BadNesting", "nesting"))


class RingsTest(unittest.TestCase):
    def plain_rings(self, one, other):
        """The rings, each by a walk from each edge until it comes again."""
        found = set()
        for start in range(len(one)):
            ring, edge, first = [], start, True
            while edge != start or not ring:
                ring.append(edge)
                edge = (one if first else other)[edge]
                first = not first
            # Where the walk comes back after an odd number of steps the edge would have to be its own partner.
            self.assertEqual(len(ring) % 2, 0)
            found.add(tuple(sorted(ring)))
        return tuple(sorted(found))

    def test_by_a_walk(self):
        draw = random.Random(5)
        many_rings = set()
        for many in (2, 4, 6, 8, 12, 20, 50):
            for _ in range(6):
                one, other = random_row(many, draw), random_row(many, draw)
                told = rings(Nesting(one), Nesting(other))
                self.assertEqual(told, self.plain_rings(one, other))
                self.assertEqual(sorted(sum(told, ())), list(range(many)))
                self.assertEqual(least_exchanges(Nesting(one), Nesting(other)), many // 2 - len(told))
                many_rings.add(len(told))
        self.assertGreater(len(many_rings), 3)

    def test_equal_nestings(self):
        for row in partner_rows(8):
            nesting = Nesting(row)
            self.assertEqual(rings(nesting, nesting), nesting.pairs)
            self.assertEqual(least_exchanges(nesting, Nesting(row)), 0)

    def test_the_least_number_by_a_search(self):
        for many in (2, 4, 6, 8):
            rows = partner_rows(many)
            beside = {row: plain_beside(row) for row in rows}
            for start in rows:
                steps = steps_from(beside, start)
                self.assertEqual(len(steps), len(rows))
                for row, least in steps.items():
                    self.assertEqual(least_exchanges(Nesting(start), Nesting(row)), least)

    def test_what_is_refused_in_order(self):
        for asked in (rings, least_exchanges):
            for value in ODD_VALUES + (FLAP.partners, str(FLAP)):
                self.assertEqual(raised(asked, value, None), ("BadNesting", "one"))
                self.assertEqual(raised(asked, FLAP, value), ("BadNesting", "other"))
            self.assertEqual(raised(asked, FLAP, Nesting([1, 0])), ("Misfit", "edges"))


class SewnTest(unittest.TestCase):
    def rims_and_rows(self):
        draw = random.Random(6)
        for kind in ("square", "triangle"):
            for many in (4, 6, 8, 10, 12):
                for seed in range(4):
                    amounts = sewn_amounts(kind, many, seed) if seed else random_amounts(kind, many, seed)
                    full = 4 if kind == "square" else 6
                    rows = plain_sewings(amounts, full)
                    yield Rim(kind, amounts), draw.sample(rows, min(3, len(rows))) + [random_row(many, draw)]

    def test_those_that_are_sewings(self):
        counts = {}
        for rim, rows in self.rims_and_rows():
            for row in rows:
                right = [other for other in plain_beside(row) if max(sums_of(rim.amounts, other)) <= rim.full]
                told = sewn_exchanges(rim, Nesting(row))
                self.assertIsInstance(told, tuple)
                self.assertEqual([other.partners for other in told], right)
                whether = max(sums_of(rim.amounts, row)) <= rim.full
                counts[(whether, bool(right))] = counts.get((whether, bool(right)), 0) + 1
                if whether:
                    kind = plain_kind(rim.amounts, rim.full, row)
                    alike = [other for other in right if plain_kind(rim.amounts, rim.full, other) == kind]
                    self.assertEqual([other.partners for other in like_exchanges(rim, Nesting(row))], alike)
                    counts[(bool(right), len(alike) < len(right), bool(alike))] = 1
                else:
                    self.assertEqual(raised(like_exchanges, rim, Nesting(row)), ("BadNesting", "sewing"))
        self.assertGreaterEqual(set(counts), {(True, True), (True, False), (False, True), (False, False), (True, True, True), (True, True, False)})

    def test_what_is_refused_in_order(self):
        rim = Rim("square", [1, 2, 1, 1, 2, 1])
        for asked in (sewn_exchanges, like_exchanges):
            for value in ODD_VALUES + (rim.amounts, str(rim)):
                self.assertEqual(raised(asked, value, None), ("BadRim", "rim"))
                self.assertEqual(raised(asked, rim, value), ("BadNesting", "nesting"))
            self.assertEqual(raised(asked, rim, Nesting([1, 0])), ("Misfit", "edges"))


if __name__ == "__main__":
    unittest.main()
