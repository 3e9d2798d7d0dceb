"""Whether a value shows a way, or that there is none: right papers, and bent ones."""

import random
import unittest

from plain import ODD_VALUES, impostors, partner_rows, plain_sewings, raised, sums_of
from plain_ways import plain_beside, plain_classes, sewings_beside, some_rims, steps_from
from rimsewn.check_ways import shows_way
from rimsewn.nestings import Nesting
from rimsewn.papers import Denial, Paper
from rimsewn.rims import Rim
from rimsewn.ways import Parted, Way, way

ELBOW = Rim("square", [1, 2, 1, 1, 3, 1, 1, 2])
BEGIN, END, LONE = [Nesting.read(text) for text in ("0-1 2-7 3-6 4-5", "0-7 1-6 2-5 3-4", "0-3 1-2 4-7 5-6")]


class Way2(Way):
    """A class below that of the right papers."""


class Parted2(Parted):
    """A class below that of the right papers."""


def is_right_way(rim, one, other, rows):
    """Whether rows of partners are a way, by the words of the document."""
    if not rows or rows[0] != one or rows[-1] != other:
        return False
    if any(row not in plain_sewings(rim.amounts, rim.full) for row in rows):
        return False
    return all(behind in plain_beside(row) for row, behind in zip(rows, rows[1:]))


def is_right_parted(rim, one, other, rows):
    """Whether rows of partners show that there is no way, by the words of the document."""
    beside = sewings_beside(rim)
    if list(rows) != sorted(set(rows)) or not all(row in beside for row in rows):
        return False
    return one in rows and other not in rows and all(behind in rows for row in rows for behind in beside[row])


class WayTest(unittest.TestCase):
    def test_what_way_returns(self):
        words = {"way": 0, "parted": 0}
        for rim in some_rims():
            rows = plain_sewings(rim.amounts, rim.full)
            for other in rows[::3]:
                paper = way(rim, Nesting(rows[0]), Nesting(other))
                words[paper.word] += 1
                self.assertIs(shows_way(rim, Nesting(rows[0]), Nesting(other), paper), True)
        self.assertGreater(min(words.values()), 10)

    def test_other_right_ways(self):
        # Ways drawn step by step, longer ones, that come to a sewing twice.
        draw = random.Random(1)
        seen = 0
        for rim in some_rims():
            beside = sewings_beside(rim)
            row = draw.choice(sorted(beside))
            rows = [row]
            for _ in range(draw.randrange(8)):
                if beside[row]:
                    row = draw.choice(beside[row])
                    rows.append(row)
            one, other = Nesting(rows[0]), Nesting(rows[-1])
            self.assertIs(shows_way(rim, one, other, Way(rows)), True)
            seen += len(rows) > len(way(rim, one, other).rows)
        self.assertGreater(seen, 20)

    def test_bent_ways(self):
        draw = random.Random(2)
        counts = {True: 0, False: 0}
        for rim in list(some_rims())[::2]:
            rows_of_rim = plain_sewings(rim.amounts, rim.full)
            everything = partner_rows(len(rim))
            for _ in range(3):
                one, other = draw.choice(rows_of_rim), draw.choice(rows_of_rim)
                paper = way(rim, Nesting(one), Nesting(other))
                if not paper:
                    continue
                rows = paper.rows
                bent = [rows[::-1], rows + rows[-1:], rows[:1] + rows, rows[1:], rows[:-1], ()]
                for at in range(len(rows)):
                    bent.append(rows[:at] + rows[at + 1:])
                    bent.append(rows[:at + 1] + rows[at:])
                    bent.append(rows[:at] + (draw.choice(everything),) + rows[at + 1:])
                    bent.append(rows[:at] + (draw.choice(rows_of_rim),) + rows[at:])
                    bent.append(rows[:at] + (rows[at][::-1],) + rows[at + 1:])
                for its in bent:
                    right = is_right_way(rim, one, other, its)
                    self.assertIs(shows_way(rim, Nesting(one), Nesting(other), Way(its)), right)
                    counts[right] += 1
        self.assertGreater(counts[True], 10)
        self.assertGreater(counts[False], 200)

    def test_through_what_is_no_sewing(self):
        # Each row is made by one exchange, but one of them is no sewing.
        seen = 0
        for rim in some_rims():
            rows = plain_sewings(rim.amounts, rim.full)
            for one in rows[:4]:
                for between in plain_beside(one):
                    if max(sums_of(rim.amounts, between)) > rim.full:
                        for other in [row for row in plain_beside(between) if row in rows][:2]:
                            seen += 1
                            self.assertIs(shows_way(rim, Nesting(one), Nesting(other), Way([one, between, other])), False)
        self.assertGreater(seen, 50)

    def test_true_for_a_number(self):
        rows = way(ELBOW, BEGIN, END).rows
        for at in range(len(rows)):
            for wrong in (True, 1.0, "1", None, [1]):
                row = tuple(wrong if partner == 1 else partner for partner in rows[at])
                self.assertIs(shows_way(ELBOW, BEGIN, END, Way(rows[:at] + (row,) + rows[at + 1:])), False)
            row = tuple(False if partner == 0 else partner for partner in rows[at])
            self.assertIs(shows_way(ELBOW, BEGIN, END, Way(rows[:at] + (row,) + rows[at + 1:])), False)
        self.assertIs(shows_way(ELBOW, BEGIN, END, Way([list(row) for row in rows])), True)


class PartedTest(unittest.TestCase):
    def test_bent_rows(self):
        draw = random.Random(3)
        counts = {True: 0, False: 0}
        for rim in list(some_rims()):
            groups = plain_classes(rim)
            if len(groups) < 2:
                continue
            everything = partner_rows(len(rim))
            one, other = draw.choice(groups[0]), draw.choice(groups[1])
            mine, its = groups[0], groups[1]
            bent = [mine, its, groups[-1], tuple(sorted(mine + its)), tuple(sorted(mine + groups[-1])), mine + its, mine[::-1], (), mine + mine[-1:],
                    mine[:1] + mine, tuple(sorted(mine + (draw.choice(everything),))), tuple(sorted(sum(groups, ()))), (one,)]
            for at in range(len(mine)):
                bent.append(mine[:at] + mine[at + 1:])
                bent.append(mine[:at] + (mine[at][::-1],) + mine[at + 1:])
            for rows in bent:
                for first, second in ((one, other), (other, one), (one, one)):
                    right = is_right_parted(rim, first, second, rows)
                    self.assertIs(shows_way(rim, Nesting(first), Nesting(second), Parted(rows)), right)
                    counts[right] += 1
        self.assertGreater(counts[True], 10)
        self.assertGreater(counts[False], 200)

    def test_two_classes(self):
        # Rows of two classes are right as long as the other one's is none of them.
        seen = 0
        for rim in some_rims():
            groups = plain_classes(rim)
            if len(groups) > 2:
                seen += 1
                rows = sorted(groups[0] + groups[2])
                one, other, third = [Nesting(group[0]) for group in groups[:3]]
                self.assertIs(shows_way(rim, one, other, Parted(rows)), True)
                self.assertIs(shows_way(rim, third, other, Parted(rows)), True)
                self.assertIs(shows_way(rim, one, third, Parted(rows)), False)
                self.assertIs(shows_way(rim, one, other, Parted(rows[1:])), False)
        self.assertGreater(seen, 3)

    def test_a_part_of_a_class(self):
        rows = [row for row in plain_classes(ELBOW) if len(row) == 6][0]
        beside = sewings_beside(ELBOW)
        self.assertEqual(len(steps_from(beside, rows[0])), 6)
        for at in range(6):
            part = rows[:at] + rows[at + 1:]
            for row in part:
                self.assertIs(shows_way(ELBOW, Nesting(row), Nesting(rows[at]), Parted(part)), False)
                self.assertIs(shows_way(ELBOW, Nesting(row), LONE, Parted(part)), False)
                self.assertIs(shows_way(ELBOW, Nesting(row), LONE, Parted(rows)), True)

    def test_true_for_a_number(self):
        rows = LONE.partners
        self.assertIs(shows_way(ELBOW, LONE, END, Parted([rows])), True)
        for wrong in (True, 1.0, "1", None):
            self.assertIs(shows_way(ELBOW, LONE, END, Parted([tuple(wrong if partner == 1 else partner for partner in rows)])), False)
        self.assertIs(shows_way(ELBOW, LONE, END, Parted([tuple(False if partner == 0 else partner for partner in rows)])), False)


class OthersTest(unittest.TestCase):
    def test_values_that_are_no_paper(self):
        rows, lone = way(ELBOW, BEGIN, END).rows, (LONE.partners,)
        for value in ODD_VALUES + (rows, lone, Way2(rows), Paper("way", rows), Denial("way", rows), Way, Parted(rows), Parted2(rows), Denial("parted", lone)):
            self.assertIs(shows_way(ELBOW, BEGIN, END, value), False)
            self.assertIs(shows_way(ELBOW, LONE, END, value), False)
        for value in (Parted2(lone), *impostors(Parted(lone)), *impostors(Way(rows))):
            self.assertIs(shows_way(ELBOW, LONE, END, value), False)
            self.assertIs(shows_way(ELBOW, BEGIN, END, value), False)
        for value in ODD_VALUES + ("rows", {0: rows}, [rows], [None], [[]]):
            self.assertIs(shows_way(ELBOW, BEGIN, END, Way(value)), False)
            self.assertIs(shows_way(ELBOW, LONE, END, Parted(value)), False)

    def test_what_is_refused_in_order(self):
        no_sewing = Nesting.read("0-7 1-2 3-4 5-6")
        for value in ODD_VALUES + (ELBOW.amounts, str(ELBOW)):
            self.assertEqual(raised(shows_way, value, None, None, None), ("BadRim", "rim"))
        for value in ODD_VALUES + (LONE.partners, no_sewing, Nesting([1, 0])):
            self.assertEqual(raised(shows_way, ELBOW, value, None, None), ("BadNesting", "one"))
            self.assertEqual(raised(shows_way, ELBOW, LONE, value, None), ("BadNesting", "other"))


if __name__ == "__main__":
    unittest.main()
