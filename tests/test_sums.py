"""What gathers at the places of nestings."""

import unittest

from plain import ODD_VALUES, corner_places, partner_rows, plain_kind, raised, random_amounts, sums_of
from rimsewn.nestings import Nesting
from rimsewn.rims import Rim
from rimsewn.sums import gathered, is_sewing, kind_of, tips_of, too_much

DOMINO = Rim("square", [1, 2, 1, 1, 2, 1])
ALL = (gathered, is_sewing, too_much, kind_of, tips_of)


class SumsTest(unittest.TestCase):
    def test_against_a_plain_joining(self):
        sewings = 0
        for kind, full in (("square", 4), ("triangle", 6)):
            for edges in (4, 6, 8):
                for seed in range(5):
                    amounts = random_amounts(kind, edges, seed)
                    rim = Rim(kind, amounts)
                    for row in partner_rows(edges):
                        nesting = Nesting(row)
                        sums = sums_of(amounts, row)
                        self.assertEqual(gathered(rim, nesting), tuple(sums))
                        self.assertIs(is_sewing(rim, nesting), max(sums) <= full)
                        over = [place[0] for place, total in zip(corner_places(row), sums) if total > full]
                        self.assertEqual(too_much(rim, nesting), over[0] if over else None)
                        self.assertEqual(kind_of(rim, nesting), plain_kind(amounts, full, row))
                        self.assertEqual(tips_of(rim, nesting),
                                         tuple(at for at, total in enumerate(sums) if total < full))
                        self.assertEqual(sum(full - total for total in sums), 2 * full)
                        sewings += not over
        self.assertGreater(sewings, 20)

    def test_what_is_refused_in_order(self):
        for ask in ALL:
            for value in ODD_VALUES + (str(DOMINO), Nesting([1, 0])):
                self.assertEqual(raised(ask, value, None), ("BadRim", "rim"))
            for value in ODD_VALUES + (DOMINO, "0-1 2-3 4-5"):
                self.assertEqual(raised(ask, DOMINO, value), ("BadNesting", "nesting"))
            for row in ([1, 0], [1, 0, 3, 2], [1, 0, 3, 2, 5, 4, 7, 6]):
                self.assertEqual(raised(ask, DOMINO, Nesting(row)), ("Misfit", "edges"))
            self.assertEqual(raised(ask, Rim("triangle", [1, 1, 1]), Nesting([1, 0])), ("Misfit", "edges"))


if __name__ == "__main__":
    unittest.main()
