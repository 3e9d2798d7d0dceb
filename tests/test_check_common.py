"""Whether a value shows which bodies a sheet makes, or which sheet two bodies have in common."""

import random
import unittest

from drawn import drawn_body, drawn_sheet, shuffled
from plain import ODD_VALUES, impostors, partner_rows, raised
from plain_cuts import plain_cuts
from plain_sheets import plain_made, plain_sewings_of, renames_skins
from rimsewn.bodies import Body, sewn
from rimsewn.check_common import shows_common, shows_makes
from rimsewn.common import Common, NoCommon, common_sheet, sheets_of
from rimsewn.cuts import Cut, idle
from rimsewn.listed import bodies_of
from rimsewn.made import NotMade, makes
from rimsewn.nestings import Nesting
from rimsewn.opened import opened
from rimsewn.papers import Denial, Paper
from rimsewn.sewn import Sewing
from rimsewn.sheets import Sheet

SQUARE = Sheet.single("square")
DOMINO = SQUARE.put_on(2)
QUARTERS = Body.read("square 4 : 0 11 / 1 6 / 2 13 / 3 8 / 4 7 / 5 10 / 9 14 / 12 15")
LOW = Body.read("triangle 6 : 0 1 / 2 3 / 4 6 / 5 7 / 8 9 / 10 12 / 11 13 / 14 15 / 16 17")
HIGH = Body.read("triangle 6 : 0 1 / 2 3 / 4 6 / 5 9 / 7 11 / 8 12 / 10 14 / 13 15 / 16 17")


class Common2(Common):
    """A class below that of the right papers."""


class NoCommon2(NoCommon):
    """A class below that of the right papers."""


class Sewing2(Sewing):
    """A class below that of the right papers."""


class NotMade2(NotMade):
    """A class below that of the right papers."""


def bent_rows(rows):
    """Lists of codes with one left out, put in, told twice, changed, out of order."""
    for at in range(len(rows)):
        yield rows[:at] + rows[at + 1:]
        yield rows[:at + 1] + rows[at:]
        for k in range(len(rows[at])):
            yield rows[:at] + (rows[at][:k] + (rows[at][k] + 1,) + rows[at][k + 1:],) + rows[at + 1:]
        yield rows[:at] + (rows[at][:-1],) + rows[at + 1:]
    if len(rows) > 1:
        yield rows[::-1]
        yield rows[1:2] + rows[:1] + rows[2:]
    yield rows + ((1, 0, 3, 2),) if (1, 0, 3, 2) not in rows else rows + (rows[0],)
    for value in (None, 0, True, "rows", (rows,)):
        if value != rows:
            yield value


class MakesTest(unittest.TestCase):
    def sheets(self):
        draw = random.Random(1)
        yield from (SQUARE, DOMINO, DOMINO.put_on(4), DOMINO.put_on(1), Sheet.read("triangle 2 : 0 3"), Sheet.read("triangle 4 : 0 3 / 1 6 / 2 9"))
        for kind in ("square", "triangle"):
            yield drawn_sheet(kind, 4, draw, 0.3)

    def test_each_nesting(self):
        counts = {True: 0, False: 0}
        for sheet in self.sheets():
            right = plain_made(sheet)
            for code, rows in right.items():
                body = shuffled(sewn(sheet, Nesting(rows[0])), random.Random(2))
                for partners in partner_rows(len(sheet)):
                    told = shows_makes(sheet, body, Sewing(list(partners)))
                    self.assertIs(told, partners in rows)
                    counts[told] += 1
        self.assertGreater(min(counts.values()), 30)

    def test_what_makes_returns(self):
        words = {"sewing": 0, "notmade": 0}
        for sheet in self.sheets():
            bodies = [drawn_body(sheet.kind, faces, seed) for faces in (2, 4) for seed in range(4)]
            bodies += [sewn(sheet, Nesting(row)) for row in plain_sewings_of(sheet)[:3]]
            for body in bodies:
                paper = makes(sheet, body)
                words[paper.word] += 1
                self.assertIs(shows_makes(sheet, body, paper), True)
                codes = tuple(sorted(plain_made(sheet)))
                for told in [codes] + list(bent_rows(codes)):
                    right = told == codes and not paper
                    self.assertIs(shows_makes(sheet, body, NotMade(told)), right)
        self.assertGreater(min(words.values()), 10)

    def test_bent_sewings(self):
        body = sewn(SQUARE, Nesting([1, 0, 3, 2]))
        self.assertIs(shows_makes(SQUARE, body, Sewing([1, 0, 3, 2])), True)
        for partners in ([True, 0, 3, 2], [1, False, 3, 2], [1.0, 0, 3, 2], [1, 0], [1, 0, 3, 2, 5, 4], [1, 0, 3], [2, 3, 0, 1], [0, 1, 2, 3],
                         [[1, 0, 3, 2]], "1032", None, 0):
            self.assertIs(shows_makes(SQUARE, body, Sewing(partners)), False)

    def test_true_for_a_number(self):
        other = sewn(DOMINO, Nesting([1, 0, 3, 2, 5, 4]))
        self.assertIs(shows_makes(SQUARE, other, NotMade([[1, 0, 3, 2]])), True)
        for codes in ([[True, 0, 3, 2]], [[1, False, 3, 2]], [[1, 0, 3.0, 2]]):
            self.assertIs(shows_makes(SQUARE, other, NotMade(codes)), False)

    def test_a_sheet_without_a_sewing(self):
        triangle, body = Sheet.single("triangle"), drawn_body("triangle", 2, 1)
        self.assertIs(shows_makes(triangle, body, NotMade([])), True)
        self.assertIs(shows_makes(triangle, body, NotMade([[0, 1, 2]])), False)

    def test_values_that_are_no_paper(self):
        body, other = sewn(SQUARE, Nesting([1, 0, 3, 2])), sewn(DOMINO, Nesting([1, 0, 3, 2, 5, 4]))
        codes = ((1, 0, 3, 2),)
        self.assertIs(shows_makes(SQUARE, body, Sewing((1, 0, 3, 2))), True)
        self.assertIs(shows_makes(SQUARE, other, NotMade(codes)), True)
        for value in ODD_VALUES + ((1, 0, 3, 2), codes, Paper("sewing", (1, 0, 3, 2)), Sewing2((1, 0, 3, 2)), Denial("notmade", codes), NotMade2(codes),
                                   NotMade, Sewing, *impostors(Sewing((1, 0, 3, 2))), *impostors(NotMade(codes))):
            self.assertIs(shows_makes(SQUARE, body, value), False)
            self.assertIs(shows_makes(SQUARE, other, value), False)
        for value in ODD_VALUES:
            self.assertIs(shows_makes(SQUARE, body, Sewing(value)), False)
            self.assertIs(shows_makes(SQUARE, other, NotMade(value)), False)

    def test_what_is_refused_in_order(self):
        body = drawn_body("square", 2, 1)
        for value in ODD_VALUES + (DOMINO.skin, body):
            self.assertEqual(raised(shows_makes, value, None, None), ("BadSheet", "sheet"))
        for value in ODD_VALUES + (DOMINO, body.skin):
            self.assertEqual(raised(shows_makes, DOMINO, value, None), ("BadBody", "body"))
        self.assertEqual(raised(shows_makes, Sheet.single("triangle"), body, None), ("Misfit", "kind"))


class CommonTest(unittest.TestCase):
    def bodies(self):
        for kind, faces in (("square", 1), ("square", 2), ("square", 3), ("triangle", 2), ("triangle", 4)):
            for body in bodies_of(kind, faces)[:4]:
                yield shuffled(body, random.Random(1))

    def right(self, one, other, parts):
        """Whether parts of a Common are right, by the words of the document; idle ends are let."""
        seams, its, sides = parts
        if tuple(seams) not in plain_cuts(one) or tuple(its) not in plain_cuts(other):
            return False
        return renames_skins(opened(Cut(one, seams)).skin, opened(Cut(other, its)).skin, sides)

    def test_what_common_sheet_returns(self):
        words = {"common": 0, "nocommon": 0}
        for one in self.bodies():
            for other in self.bodies():
                if one.kind == other.kind:
                    paper = common_sheet(one, other)
                    words[paper.word] += 1
                    self.assertIs(shows_common(one, other, paper), True)
        self.assertGreater(min(words.values()), 10)

    def test_each_pair_of_cuts(self):
        # Each cut of the one, each of the other, and each renaming of what is opened.
        counts = {True: 0, False: 0}
        for one, other in ((QUARTERS, shuffled(QUARTERS, random.Random(3))), (LOW, HIGH),
                           (sewn(DOMINO, Nesting([1, 0, 3, 2, 5, 4])), sewn(DOMINO, Nesting([3, 2, 1, 0, 5, 4])))):
            draw = random.Random(4)
            own, its = plain_cuts(one), plain_cuts(other)
            for seams in draw.sample(own, min(len(own), 12)):
                for others in draw.sample(its, min(len(its), 12)):
                    skins = opened(Cut(one, seams)).skin, opened(Cut(other, others)).skin
                    for sides in self.numberings(*skins):
                        right = renames_skins(skins[0], skins[1], sides)
                        self.assertIs(shows_common(one, other, Common(seams, others, sides)), right)
                        counts[right] += 1
        self.assertGreater(counts[True], 10)
        self.assertGreater(counts[False], 200)

    def numberings(self, one, other):
        """Rows of sides that bring the numbering of the one from side 0 to that of the other from each side."""
        def order(skin, first):
            found = [first // skin.turn * skin.turn + (first + k) % skin.turn for k in range(skin.turn)]
            for side in found:
                mate = skin.mate(side)
                if mate is not None and mate not in found:
                    found += [mate // skin.turn * skin.turn + (mate + k) % skin.turn for k in range(skin.turn)]
            return found

        for first in range(other.sides):
            goal = dict(zip(order(one, 0), order(other, first)))
            yield [goal[side] for side in range(one.sides)]

    def test_idle_ends(self):
        seen = 0
        for seams in plain_cuts(QUARTERS):
            cut = Cut(QUARTERS, seams)
            paper = Common(seams, seams, list(range(16)))
            self.assertIs(shows_common(QUARTERS, QUARTERS, paper), True)
            seen += idle(cut) != ()
        self.assertGreater(seen, 3)

    def test_bent_commons(self):
        one, other = sewn(DOMINO, Nesting([3, 2, 1, 0, 5, 4])), sewn(DOMINO, Nesting([1, 0, 3, 2, 5, 4]))
        paper = common_sheet(one, other)
        seams, its, sides = paper.parts
        self.assertTrue(self.right(one, other, paper.parts))
        bent = [(seams[::-1], its, sides), (seams, its[::-1], sides), (seams[:-1], its, sides), (seams, its[1:], sides), (its, seams, sides),
                (seams + seams[-1:], its, sides), ((-1,) + seams[1:], its, sides), (seams, its, sides[::-1]), (seams, its, sides[:-1]),
                (seams, its, sides + (8,)), (seams, its, [float(side) for side in sides]), ((), its, sides), (seams, (), sides),
                ([bool(seam) if seam < 2 else seam for seam in seams], its, sides), (seams, its, [bool(side) if side < 2 else side for side in sides])]
        for at in range(len(sides)):
            for by in (1, 4, -1):
                bent.append((seams, its, sides[:at] + (sides[at] + by,) + sides[at + 1:]))
        for parts in bent:
            if parts[:2] == (its, seams) and self.right(one, other, parts):
                continue
            self.assertIs(shows_common(one, other, Common(*parts)), False, parts)
        for value in ODD_VALUES:
            for at in range(3):
                parts = [seams, its, sides]
                parts[at] = value
                if tuple(value) != paper.parts[at] if isinstance(value, (list, tuple)) else True:
                    self.assertIs(shows_common(one, other, Common(*parts)), False)
        for value in ODD_VALUES + (paper.parts, Common2(*paper.parts), Paper("common", *paper.parts), Denial("common", *paper.parts), Common,
                                   *impostors(paper)):
            self.assertIs(shows_common(one, other, value), False)

    def test_codes(self):
        for one, other in ((LOW, HIGH), (sewn(SQUARE, Nesting([1, 0, 3, 2])), sewn(DOMINO, Nesting([1, 0, 3, 2, 5, 4])))):
            ones, others = sheets_of(one), sheets_of(other)
            self.assertIs(shows_common(one, other, NoCommon(ones, others)), True)
            self.assertIs(shows_common(one, other, NoCommon(list(ones), [list(row) for row in others])), True)
            self.assertIs(shows_common(other, one, NoCommon(ones, others)), False)
            self.assertIs(shows_common(other, one, NoCommon(others, ones)), True)
            for bent in bent_rows(ones):
                self.assertIs(shows_common(one, other, NoCommon(bent, others)), False)
            for bent in bent_rows(others):
                self.assertIs(shows_common(one, other, NoCommon(ones, bent)), False)
            for value in (NoCommon2(ones, others), Denial("nocommon", ones, others), NoCommon, *impostors(NoCommon(ones, others))):
                self.assertIs(shows_common(one, other, value), False)

    def test_codes_of_bodies_with_a_common_sheet(self):
        one, other = sewn(DOMINO, Nesting([3, 2, 1, 0, 5, 4])), sewn(DOMINO, Nesting([1, 0, 3, 2, 5, 4]))
        self.assertIs(shows_common(one, other, NoCommon(sheets_of(one), sheets_of(other))), False)

    def test_unlike_numbers_of_faces(self):
        one, other = sewn(SQUARE, Nesting([1, 0, 3, 2])), sewn(DOMINO, Nesting([1, 0, 3, 2, 5, 4]))
        self.assertEqual(common_sheet(one, other).word, "nocommon")
        for sides in (list(range(4)), list(range(8))):
            self.assertIs(shows_common(one, other, Common([0, 1], [0, 1, 2], sides)), False)

    def test_what_is_refused_in_order(self):
        square, triangle, large = drawn_body("square", 2, 1), drawn_body("triangle", 2, 1), drawn_body("square", 7, 1)
        for value in ODD_VALUES + (square.skin, str(square), DOMINO):
            self.assertEqual(raised(shows_common, value, None, None), ("BadBody", "one"))
            self.assertEqual(raised(shows_common, square, value, None), ("BadBody", "other"))
        self.assertEqual(raised(shows_common, large, triangle, None), ("Misfit", "kind"))
        self.assertEqual(raised(shows_common, large, square, None), ("TooMany", "seams", 12))
        self.assertEqual(raised(shows_common, square, large, None), ("TooMany", "seams", 12))


if __name__ == "__main__":
    unittest.main()
