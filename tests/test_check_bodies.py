"""Whether a value shows that two bodies are alike by faces: right papers, and bent ones."""

import random
import unittest

from drawn import drawn_body, shuffled
from plain import ODD_VALUES, raised
from plain_bodies import all_renamings, is_plain_renaming, plain_code
from rimsewn.bodies import Body
from rimsewn.boxes import box
from rimsewn.check_bodies import shows_alike
from rimsewn.codes import Renaming, Unlike, alike_by_faces, code_of
from rimsewn.listed import bodies_of
from rimsewn.papers import Denial, Paper
from rimsewn.turnings import mirrors, turnings

BENT = Body.read("square 2 : 0 4 / 1 7 / 2 3 / 5 6")


class Renaming2(Renaming):
    """A class below that of the right papers."""


class Unlike2(Unlike):
    """A class below that of the right papers."""


def bent_sides(sides, turn):
    """A row of sides with two exchanged, shifted, left out, put in."""
    size = len(sides)
    for one in range(0, size, max(1, size // 8)):
        for other in range(one + 1, size, max(1, size // 8)):
            row = list(sides)
            row[one], row[other] = row[other], row[one]
            yield tuple(row)
    for face in range(0, size, turn):
        row = sides[face:face + turn]
        yield sides[:face] + row[1:] + row[:1] + sides[face + turn:]
        yield sides[:face] + row[::-1] + sides[face + turn:]
    yield sides[turn:] + sides[:turn]
    yield sides[:-1]
    yield sides[turn:]
    yield sides + (size,)
    yield sides[:-1] + (size,)
    yield sides[:-1] + (-1,)
    yield sides[:-1] + sides[:1]


class CheckBodiesTest(unittest.TestCase):
    def test_what_alike_by_faces_returns(self):
        draw = random.Random(1)
        found = {"renaming": 0, "unlike": 0}
        for kind in ("square", "triangle"):
            for faces in (2, 4, 6, 24):
                for seed in range(8):
                    one = drawn_body(kind, faces, seed)
                    for other in (shuffled(one, draw), shuffled(one.mirrored(), draw), drawn_body(kind, faces, seed + 1),
                                  drawn_body(kind, 2, seed)):
                        for mirrored in (False, True):
                            paper = alike_by_faces(one, other, mirrored)
                            found[paper.word] += 1
                            self.assertIs(shows_alike(one, other, mirrored, paper), True)
        self.assertGreater(min(found.values()), 50)

    def test_bent_renamings(self):
        both = {True: 0, False: 0}
        draw = random.Random(2)
        bodies = list(bodies_of("square", 2)) + list(bodies_of("triangle", 4)) + [box(1, 1, 2), drawn_body("triangle", 8, 1)]
        for one in bodies:
            for other in (one, shuffled(one, draw), one.mirrored()):
                for mirrored in (False, True):
                    right = alike_by_faces(one, other, mirrored)
                    if not right:
                        continue
                    for sides in [right.sides] + list(bent_sides(right.sides, one.turn)):
                        for asked in (False, True):
                            told = shows_alike(one, other, asked, Renaming(list(sides)))
                            self.assertIs(told, is_plain_renaming(one, other, asked, sides))
                            both[told] += 1
        self.assertGreater(min(both.values()), 30)

    def test_any_renaming(self):
        for body in (box(1, 1, 1), BENT):
            for paper in turnings(body):
                self.assertIs(shows_alike(body, body, False, paper), True)
                self.assertIs(shows_alike(body, body, True, paper), False)
            for paper in mirrors(body):
                self.assertIs(shows_alike(body, body, True, paper), True)
                self.assertIs(shows_alike(body, body, False, paper), False)
        one, other = Body.read("square 1 : 0 1 / 2 3"), Body.read("square 1 : 0 3 / 1 2")
        for mirrored in (False, True):
            right = all_renamings(one, other, mirrored)
            self.assertEqual(len(right), 2)
            for sides in right:
                self.assertIs(shows_alike(one, other, mirrored, Renaming(sides)), True)

    def test_true_and_false_are_no_numbers(self):
        one = Body.read("square 1 : 0 1 / 2 3")
        self.assertIs(shows_alike(one, one, False, Renaming([0, 1, 2, 3])), True)
        for sides in ([False, 1, 2, 3], [0, True, 2, 3], [0.0, 1, 2, 3], ["0", 1, 2, 3], [[0], 1, 2, 3], "0123"):
            self.assertIs(shows_alike(one, one, False, Renaming(sides)), False)

    def test_codes(self):
        one, other = bodies_of("square", 2)[0], bodies_of("square", 2)[1]
        right = (code_of(one), code_of(other))
        self.assertIs(shows_alike(one, other, False, Unlike(*right)), True)
        self.assertIs(shows_alike(one, other, False, Unlike(list(right[0]), list(right[1]))), True)
        self.assertIs(shows_alike(other, one, False, Unlike(*right)), False)
        for code, its in ((right[1], right[0]), (right[0], right[0]), (right[1], right[1]), (right[0], None), (None, right[1]),
                          (right[0][:-1], right[1]), (right[0], right[1] + (0,)), ((True,) + right[0][1:], right[1]),
                          ((1.0,) + right[0][1:], right[1]), (right[0], (right[1],)), ("1", right[1]), (right, ())):
            self.assertIs(shows_alike(one, other, False, Unlike(code, its)), False)
        # Of bodies that are alike the codes are equal.
        self.assertIs(shows_alike(one, one, False, Unlike(right[0], right[0])), False)

    def test_codes_of_mirrored_bodies(self):
        seen = 0
        for seed in range(30):
            one = drawn_body("square", 7, seed)
            if code_of(one) == code_of(one.mirrored()):
                continue
            seen += 1
            plainly, mirrored = (plain_code(one), plain_code(one)), (plain_code(one.mirrored()), plain_code(one))
            self.assertIs(shows_alike(one, one, True, Unlike(*mirrored)), True)
            self.assertIs(shows_alike(one, one, True, Unlike(*plainly)), False)
            self.assertIs(shows_alike(one, one, False, Unlike(*mirrored)), False)
            self.assertIs(shows_alike(one, one, False, Unlike(*plainly)), False)
        self.assertGreater(seen, 5)

    def test_unlike_numbers_of_faces(self):
        one, other = drawn_body("square", 2, 1), drawn_body("square", 3, 1)
        self.assertIs(shows_alike(one, other, False, Unlike(code_of(one), code_of(other))), True)
        for sides in (range(8), range(12)):
            self.assertIs(shows_alike(one, other, False, Renaming(list(sides))), False)
            self.assertIs(shows_alike(other, one, False, Renaming(list(sides))), False)

    def test_other_values(self):
        sides = tuple(range(8))
        self.assertIs(shows_alike(BENT, BENT, False, Renaming(sides)), True)
        for value in ODD_VALUES + (sides, Renaming2(sides), Paper("renaming", sides), Denial("renaming", sides), Renaming,
                                   Unlike(sides, sides), Unlike2(code_of(BENT), sides)):
            self.assertIs(shows_alike(BENT, BENT, False, value), False)
        for value in ODD_VALUES:
            self.assertIs(shows_alike(BENT, BENT, False, Renaming(value)), False)
            self.assertIs(shows_alike(BENT, BENT, False, Unlike(value, value)), False)
        one, other = bodies_of("square", 2)[0], bodies_of("square", 2)[1]
        self.assertIs(shows_alike(one, other, False, Unlike2(code_of(one), code_of(other))), False)
        self.assertIs(shows_alike(one, other, False, Denial("unlike", code_of(one), code_of(other))), False)

    def test_what_is_refused_in_order(self):
        three = Body.read("triangle 2 : 0 3 / 1 5 / 2 4")
        for value in ODD_VALUES + (BENT.skin, str(BENT)):
            self.assertEqual(raised(shows_alike, value, None, False, None), ("BadBody", "one"))
            self.assertEqual(raised(shows_alike, three, value, False, None), ("BadBody", "other"))
        self.assertEqual(raised(shows_alike, three, BENT, False, None), ("Misfit", "kind"))


if __name__ == "__main__":
    unittest.main()
