"""Codes, first forms, renamings and turnings, against all renamings of small bodies."""

import itertools
import random
import unittest

from drawn import drawn_body, shuffled
from plain import ODD_VALUES, raised
from plain_bodies import all_renamings, is_plain_renaming, plain_code, plain_row
from rimsewn.bodies import Body
from rimsewn.boxes import box
from rimsewn.codes import Renaming, Unlike, alike_by_faces, code_of, first_form, least_row, mates_from
from rimsewn.listed import bodies_of
from rimsewn.turnings import mirrors, turnings

BENT = Body.read("square 2 : 0 4 / 1 7 / 2 3 / 5 6")


def small_bodies():
    """Some bodies of few faces, several of each form."""
    draw = random.Random(1)
    for kind, faces in (("square", 1), ("square", 2), ("square", 3), ("triangle", 2), ("triangle", 4)):
        for body in bodies_of(kind, faces):
            yield body
            yield shuffled(body, draw)
            yield shuffled(body.mirrored(), draw)


class CodesTest(unittest.TestCase):
    def test_rows_of_mates(self):
        for body in list(small_bodies()) + [drawn_body("square", 7, 1), drawn_body("triangle", 8, 1)]:
            rows = [plain_row(body, side) for side in range(body.skin.sides)]
            self.assertEqual([mates_from(body, side) for side in range(body.skin.sides)], rows)
            self.assertEqual(code_of(body), min(rows))
            self.assertIsInstance(code_of(body), tuple)

    def test_the_side_of_the_least_row(self):
        for body in small_bodies():
            rows = [plain_row(body, side) for side in range(body.skin.sides)]
            self.assertEqual(least_row(body.skin), (min(rows), rows.index(min(rows))))

    def test_first_forms(self):
        for body in list(small_bodies()) + [drawn_body("square", 9, 2), drawn_body("triangle", 10, 2)]:
            form = first_form(body)
            self.assertIsInstance(form, Body)
            self.assertEqual(tuple(form.skin.mate(side) for side in range(form.skin.sides)), code_of(body))
            self.assertEqual(mates_from(form, 0), code_of(body))
            self.assertTrue(first_form(form) == form)
            self.assertEqual(form.tally, body.tally)

    def test_codes_of_renamed_bodies(self):
        draw = random.Random(2)
        for kind in ("square", "triangle"):
            for faces in (2, 8, 24):
                for seed in range(4):
                    body = drawn_body(kind, faces, seed)
                    other = shuffled(body, draw)
                    self.assertEqual(code_of(other), code_of(body))
                    self.assertTrue(first_form(other) == first_form(body))
                    told = alike_by_faces(body, other)
                    self.assertIsInstance(told, Renaming)
                    self.assertTrue(is_plain_renaming(body, other, False, told.sides))
                    mirrored = alike_by_faces(body, other.mirrored(), True)
                    self.assertTrue(is_plain_renaming(body, other.mirrored(), True, mirrored.sides))

    def test_against_all_renamings(self):
        found = {(True, True): 0, (True, False): 0, (False, True): 0, (False, False): 0}
        bodies = [body for body in small_bodies()]
        draw = random.Random(3)
        pairs = [(one, other) for one, other in itertools.product(bodies, bodies) if one.kind == other.kind]
        for one, other in draw.sample(pairs, 260):
            for mirrored in (False, True):
                right = all_renamings(one, other, mirrored)
                told = alike_by_faces(one, other, mirrored)
                found[(mirrored, bool(right))] += 1
                self.assertIs(bool(told), bool(right))
                if right:
                    self.assertIsInstance(told, Renaming)
                    self.assertEqual(told.sides, right[0])
                else:
                    self.assertIsInstance(told, Unlike)
                    self.assertEqual(told.parts, (plain_code(one.mirrored() if mirrored else one), plain_code(other)))
                    self.assertNotEqual(told.code, told.other)
        self.assertGreater(min(found.values()), 20)
        for one in bodies[:12]:
            self.assertEqual(alike_by_faces(one, one).sides, tuple(range(one.skin.sides)))

    def test_unlike_numbers_of_faces(self):
        for kind in ("square", "triangle"):
            one, other = drawn_body(kind, 2, 1), drawn_body(kind, 4, 1)
            for mirrored in (False, True):
                for first, second in ((one, other), (other, one)):
                    told = alike_by_faces(first, second, mirrored)
                    self.assertFalse(told)
                    self.assertEqual(told.parts, (code_of(first.mirrored() if mirrored else first), code_of(second)))

    def test_the_parts_of_a_paper(self):
        told = alike_by_faces(BENT, BENT.mirrored(), mirrored=True)
        self.assertEqual((told.word, told.parts), ("renaming", (told.sides,)))
        self.assertEqual(told.sides, all_renamings(BENT, BENT.mirrored(), True)[0])
        self.assertTrue(alike_by_faces(BENT, BENT) == Renaming(list(range(8))))

    def test_what_is_refused_in_order(self):
        three = Body.read("triangle 2 : 0 3 / 1 5 / 2 4")
        for value in ODD_VALUES + (BENT.skin, str(BENT)):
            for ask in (code_of, first_form, turnings, mirrors):
                self.assertEqual(raised(ask, value), ("BadBody", "body"))
            self.assertEqual(raised(mates_from, value, None), ("BadBody", "body"))
            self.assertEqual(raised(alike_by_faces, value, None), ("BadBody", "one"))
            self.assertEqual(raised(alike_by_faces, three, value), ("BadBody", "other"))
            if value != 0 or isinstance(value, bool):
                self.assertEqual(raised(mates_from, BENT, value), ("NoSide", value))
        self.assertEqual(raised(mates_from, BENT, 8), ("NoSide", 8))
        self.assertEqual(raised(alike_by_faces, three, BENT), ("Misfit", "kind"))
        self.assertEqual(raised(alike_by_faces, BENT, three, True), ("Misfit", "kind"))


class TurningsTest(unittest.TestCase):
    def test_against_all_renamings(self):
        for body in small_bodies():
            for ask, mirrored in ((turnings, False), (mirrors, True)):
                told = ask(body)
                self.assertIsInstance(told, tuple)
                self.assertTrue(all(isinstance(paper, Renaming) for paper in told))
                self.assertEqual([paper.sides for paper in told], all_renamings(body, body, mirrored))

    def test_facts(self):
        bodies = [box(1, 1, 1), box(2, 2, 2), box(1, 1, 2), box(1, 2, 3), drawn_body("square", 24, 1),
                  Body.read("triangle 4 : 0 3 / 1 6 / 2 9 / 4 11 / 5 7 / 8 10")]
        self.assertEqual([len(turnings(body)) for body in bodies[:4] + bodies[5:]], [24, 24, 8, 4, 12])
        self.assertEqual([len(mirrors(body)) for body in bodies[:4] + bodies[5:]], [24, 24, 8, 4, 12])
        for body in bodies:
            told, seen = turnings(body), mirrors(body)
            self.assertEqual(told[0].sides, tuple(range(body.skin.sides)))
            self.assertIn(len(seen), (0, len(told)))
            rows = [paper.sides for paper in told]
            self.assertEqual(rows, sorted(rows))
            for one, other in itertools.product(told[:5] + seen[:3], told[-3:] + seen[-5:]):
                behind = tuple(other.sides[side] for side in one.sides)
                mirrored = (one in seen) != (other in seen)
                self.assertIn(Renaming(behind), seen if mirrored else told)


if __name__ == "__main__":
    unittest.main()
