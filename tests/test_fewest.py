"""Cuts of the fewest seams: against all trees of small bodies, and on large ones."""

import itertools
import random
import time
import unittest

from drawn import drawn_body, shuffled
from plain import ODD_VALUES, raised
from plain_cuts import plain_cuts, plain_fair, plain_lengths
from rimsewn.bodies import Body
from rimsewn.boxes import box
from rimsewn.check_cuts import shows_fewest
from rimsewn.cuts import Cut, cuts
from rimsewn.fewest import Fewest, fewest_cut
from rimsewn.finer import finer
from rimsewn.listed import bodies_of

QUARTERS = Body.read("square 4 : 0 11 / 1 6 / 2 13 / 3 8 / 4 7 / 5 10 / 9 14 / 12 15")


def with_tips(kind, faces, most, least=3):
    """Drawn bodies of so many faces with so many tips."""
    for seed in range(400):
        body = drawn_body(kind, faces, seed)
        if least <= len(body.tips) <= most:
            yield body


class FewestTest(unittest.TestCase):
    def told_well(self, body, paper):
        """Checks the kinds of values, and that the rows are a fair table that shows the cut."""
        self.assertIsInstance(paper, Fewest)
        self.assertEqual(paper.parts, (paper.seams, paper.rows))
        self.assertEqual(list(paper.seams), sorted(set(paper.seams)))
        self.assertIsNone(raised(Cut, body, paper.seams))
        self.assertEqual(len(paper.rows), 2 ** len(body.tips))
        self.assertEqual({len(row) for row in paper.rows}, {len(body.places)})
        self.assertEqual({type(length) for row in paper.rows for length in row}, {int})
        self.assertEqual(set(paper.rows[0]), {0})
        self.assertIn(len(paper.seams), [paper.rows[-1][tip] for tip in body.tips])

    def test_against_all_trees(self):
        draw = random.Random(1)
        bodies = [QUARTERS] + [shuffled(body, draw) for kind, faces in (("square", 1), ("square", 2), ("square", 3), ("triangle", 2), ("triangle", 4))
                               for body in bodies_of(kind, faces)] + list(bodies_of("square", 4)[::9])
        for body in bodies:
            paper = fewest_cut(body)
            self.told_well(body, paper)
            self.assertEqual(len(paper.seams), min(len(seams) for seams in plain_cuts(body)))
            self.assertEqual([list(row) for row in paper.rows], plain_lengths(body))
            self.assertTrue(plain_fair(body, paper.rows))

    def test_twelve_seams(self):
        for kind, faces in (("square", 6), ("triangle", 8)):
            for body in itertools.islice(with_tips(kind, faces, 8), 12):
                paper = fewest_cut(body)
                self.told_well(body, paper)
                self.assertEqual(len(paper.seams), len(cuts(body)[0]))

    def test_large_bodies(self):
        seen = set()
        for kind in ("square", "triangle"):
            for faces in (10, 16, 24):
                for body in itertools.islice(with_tips(kind, faces, 6), 3):
                    paper = fewest_cut(body)
                    self.told_well(body, paper)
                    self.assertTrue(plain_fair(body, paper.rows))
                    self.assertTrue(shows_fewest(body, paper))
                    self.assertTrue(fewest_cut(body) == paper)
                    seen.add(len(paper.seams) - len(body.tips) + 1)
                    self.assertEqual(len(fewest_cut(body.mirrored()).seams), len(paper.seams))
        self.assertGreater(len(seen), 2)

    def test_eight_tips_of_24_faces_in_a_short_time(self):
        begin = time.perf_counter()
        fine = Body(finer(box(1, 1, 1).skin))
        self.assertEqual(len(fewest_cut(fine).seams), 14)
        for body in (fine, box(2, 2, 2), next(with_tips("triangle", 24, 8, 8)), next(with_tips("square", 24, 8, 7))):
            paper = fewest_cut(body)
            self.told_well(body, paper)
            self.assertIs(shows_fewest(body, paper), True)
        self.assertLess(time.perf_counter() - begin, 20)

    def test_nine_tips(self):
        seen = 0
        for body in with_tips("triangle", 24, 12, 9):
            seen += 1
            self.assertEqual(raised(fewest_cut, body), ("TooMany", "tips", 8))
            self.assertEqual(raised(shows_fewest, body, None), ("TooMany", "tips", 8))
            if seen == 4:
                break
        self.assertEqual(seen, 4)
        self.assertIsNone(raised(fewest_cut, next(with_tips("triangle", 24, 8, 8))))

    def test_no_body(self):
        for value in ODD_VALUES + (QUARTERS.skin, str(QUARTERS)):
            self.assertEqual(raised(fewest_cut, value), ("BadBody", "body"))
            self.assertEqual(raised(shows_fewest, value, None), ("BadBody", "body"))


if __name__ == "__main__":
    unittest.main()
