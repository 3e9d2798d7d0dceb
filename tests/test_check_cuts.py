"""Whether a value shows that no cut has fewer seams: right papers, and bent ones."""

import random
import unittest

from drawn import drawn_body, shuffled
from plain import ODD_VALUES, impostors, raised
from plain_cuts import plain_fair, plain_leads, plain_refusal_of_cut, sets_of_seams
from rimsewn.bodies import Body
from rimsewn.check_cuts import shows_fewest
from rimsewn.fewest import Fewest, fewest_cut
from rimsewn.finer import finer
from rimsewn.listed import bodies_of
from rimsewn.papers import Denial, Paper

ENVELOPE = Body.read("square 1 : 0 1 / 2 3")
QUARTERS = Body.read("square 4 : 0 11 / 1 6 / 2 13 / 3 8 / 4 7 / 5 10 / 9 14 / 12 15")


class Fewest2(Fewest):
    """A class below that of the right papers."""


def bodies():
    """Bodies of three or four tips, some with flat places."""
    draw = random.Random(1)
    found = [QUARTERS, ENVELOPE]
    for kind, faces in (("square", 2), ("square", 3), ("triangle", 2), ("triangle", 4)):
        found += [shuffled(body, draw) for body in bodies_of(kind, faces)[:3]]
    found += [body for body in (drawn_body("square", 7, seed) for seed in range(20)) if len(body.tips) <= 4][:3]
    return found


def is_right(body, seams, rows):
    """Whether seams and rows of integers are a right Fewest, by the words of the document."""
    if list(seams) != sorted(set(seams)) or not seams or plain_refusal_of_cut(body, seams) is not None:
        return False
    if set(rows[0]) != {0} or not plain_fair(body, rows):
        return False
    return len(seams) in [rows[-1][tip] for tip in body.tips]


def lessen(body, rows):
    """Lessens integers until the rows are fair."""
    leads = plain_leads(body)
    before = None
    while rows != before:
        before = [list(row) for row in rows]
        for number in range(1, len(rows)):
            for one, other in leads + [pair[::-1] for pair in leads]:
                rows[number][one] = min(rows[number][one], rows[number][other] + 1)
            for part in [part for part in range(1, number) if part & number == part]:
                rows[number] = [min(length, one + other) for length, one, other
                                in zip(rows[number], rows[part], rows[number - part])]


class ShowsFewestTest(unittest.TestCase):
    def test_each_integer_changed(self):
        counts = {True: 0, False: 0}
        for body in bodies():
            paper = fewest_cut(body)
            self.assertIs(shows_fewest(body, paper), True)
            for number, row in enumerate(paper.rows):
                for place in range(len(row)):
                    for by in (1, -1, -7):
                        rows = [list(its) for its in paper.rows]
                        rows[number][place] += by
                        right = is_right(body, paper.seams, rows)
                        self.assertIs(shows_fewest(body, Fewest(paper.seams, rows)), right)
                        counts[right] += 1
        self.assertGreater(counts[True], 20)
        self.assertGreater(counts[False], 100)

    def test_all_integers_behind_row_0_changed(self):
        for body in bodies():
            paper = fewest_cut(body)
            for by in (1, -1):
                rows = [paper.rows[0]] + [[length + by for length in row] for row in paper.rows[1:]]
                self.assertIs(shows_fewest(body, Fewest(paper.seams, rows)), False)
            for row_0 in ([1] * len(body.places), [-1] * len(body.places), [0] * (len(body.places) - 1) + [-1]):
                self.assertIs(shows_fewest(body, Fewest(paper.seams, [row_0] + list(paper.rows[1:]))), False)

    def test_other_right_papers_with_lesser_integers(self):
        draw = random.Random(2)
        lesser = 0
        for body in bodies():
            paper = fewest_cut(body)
            rows = [list(row) for row in paper.rows]
            for _ in range(150):
                number, place = draw.randrange(1, len(rows)), draw.randrange(len(body.places))
                changed = [list(row) for row in rows]
                changed[number][place] -= draw.choice([1, 1, 1, 3])
                if is_right(body, paper.seams, changed):
                    rows = changed
            self.assertIs(shows_fewest(body, Fewest(paper.seams, rows)), True)
            lesser += rows != [list(row) for row in paper.rows]
        self.assertGreater(lesser, 5)

    def test_integers_below_0(self):
        body = Body(finer(QUARTERS.skin))
        paper = fewest_cut(body)
        counts = {True: 0, False: 0}
        for number in (1, 2, 4):
            for place in range(len(body.places)):
                rows = [list(row) for row in paper.rows]
                rows[number][place] = -1
                lessen(body, rows)
                right = is_right(body, paper.seams, rows)
                self.assertIs(shows_fewest(body, Fewest(paper.seams, rows)), right)
                counts[right] += 1
        self.assertGreater(min(counts.values()), 2)

    def test_seams(self):
        counts = {True: 0, False: 0}
        for body in bodies()[:8]:
            paper = fewest_cut(body)
            for seams in sets_of_seams(body):
                right = is_right(body, seams, paper.rows)
                self.assertIs(shows_fewest(body, Fewest(seams, paper.rows)), right)
                counts[right] += 1
            bent = [paper.seams[::-1], paper.seams[:-1], paper.seams + paper.seams[-1:], (-1,) + paper.seams[1:],
                    paper.seams[:-1] + (len(body.skin.seams),), [float(seam) for seam in paper.seams], [None], "01", 0, None, [[0, 1]]]
            for seams in bent:
                self.assertIs(shows_fewest(body, Fewest(seams, paper.rows)), False)
        self.assertGreater(counts[True], 12)
        paper = fewest_cut(ENVELOPE)
        self.assertEqual(paper.seams, (0, 1))
        self.assertIs(shows_fewest(ENVELOPE, Fewest([False, True], paper.rows)), False)
        self.assertIs(shows_fewest(ENVELOPE, Fewest([0, True], paper.rows)), False)

    def test_a_cut_with_a_seam_more(self):
        # Right rows do not make a longer cut right.
        paper = fewest_cut(QUARTERS)
        self.assertIs(shows_fewest(QUARTERS, Fewest([0, 1, 3, 4, 7], paper.rows)), False)

    def test_rows(self):
        for body in bodies()[:6]:
            paper = fewest_cut(body)
            rows = paper.rows
            bent = [rows[:-1], rows[1:], rows + rows[-1:], rows[:1] + rows, (), None, 0, "rows", rows[:-1] + (None,), rows[:-1] + (rows[-1][:-1],),
                    rows[:-1] + (rows[-1] + (0,),), rows[:-1] + ([rows[-1]],), [list(map(float, row)) for row in rows],
                    [[str(length) for length in row] for row in rows], [[bool(length) for length in row] for row in rows], {0: rows}]
            for its in bent:
                self.assertIs(shows_fewest(body, Fewest(paper.seams, its)), False)
            for its in ([list(row) for row in rows], tuple(rows), [tuple(row) for row in rows]):
                self.assertIs(shows_fewest(body, Fewest(list(paper.seams), its)), True)
            # True for 1, False for 0.
            for number, row in enumerate(rows):
                for place, length in enumerate(row):
                    if length in (0, 1):
                        its = [list(row) for row in rows]
                        its[number][place] = bool(length)
                        self.assertIs(shows_fewest(body, Fewest(paper.seams, its)), False)

    def test_papers_of_other_bodies(self):
        told = bodies()
        counts = {True: 0, False: 0}
        for body in told:
            for other in told:
                paper = fewest_cut(other)
                fits = len(body.places) == len(other.places) and len(body.tips) == len(other.tips)
                right = fits and set(paper.seams) <= set(range(len(body.skin.seams))) and is_right(body, paper.seams, paper.rows)
                self.assertIs(shows_fewest(body, paper), right)
                counts[right] += 1
        self.assertGreater(counts[False], 20)

    def test_values_that_are_no_paper(self):
        right = fewest_cut(ENVELOPE).parts
        self.assertIs(shows_fewest(ENVELOPE, Fewest(*right)), True)
        for value in ODD_VALUES + (right, Fewest2(*right), Paper("fewest", *right), Denial("fewest", *right), Fewest, *impostors(Fewest(*right))):
            self.assertIs(shows_fewest(ENVELOPE, value), False)
        for value in [value for value in ODD_VALUES if value != right[0]]:
            self.assertIs(shows_fewest(ENVELOPE, Fewest(value, right[1])), False)
            self.assertIs(shows_fewest(ENVELOPE, Fewest(right[0], value)), False)
        self.assertIsNone(raised(shows_fewest, ENVELOPE, Fewest(None, None)))


if __name__ == "__main__":
    unittest.main()
