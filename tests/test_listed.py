"""All bodies of few faces, against all ways to join all sides in pairs."""

import unittest

from drawn import drawn_body
from plain import ODD_VALUES, raised
from plain_bodies import matchings, plain_code, plain_refusal, turn_of
from rimsewn.bodies import Body
from rimsewn.codes import code_of, first_form
from rimsewn.listed import bodies_of, tallies_of
from rimsewn.skins import Skin


def plain_codes(kind, faces):
    """The lesser code of each body and its mirrored one, of all ways to join all sides in pairs."""
    found = set()
    for seams in matchings(list(range(faces * turn_of(kind)))):
        if plain_refusal(kind, faces, seams) is None:
            body = Body(Skin(kind, faces, seams))
            code = code_of(body)
            if code not in found:
                found.add(min(plain_code(body), plain_code(body.mirrored())))
    return sorted(found)


class ListedTest(unittest.TestCase):
    def test_against_all_ways_to_join(self):
        for kind, faces in (("square", 1), ("square", 2), ("square", 3), ("triangle", 2), ("triangle", 4)):
            told = bodies_of(kind, faces)
            self.assertIsInstance(told, tuple)
            self.assertEqual([code_of(body) for body in told], plain_codes(kind, faces))

    def test_how_many(self):
        self.assertEqual([len(bodies_of("square", faces)) for faces in (1, 2, 3, 4)], [1, 3, 3, 8])
        self.assertEqual([len(bodies_of("triangle", faces)) for faces in (1, 2, 3, 4, 5, 6)], [0, 2, 0, 4, 0, 7])

    def test_each_is_a_first_form(self):
        for kind, most in (("square", 4), ("triangle", 6)):
            for faces in range(1, most + 1):
                codes = []
                for body in bodies_of(kind, faces):
                    self.assertIsInstance(body, Body)
                    self.assertEqual((body.kind, body.faces), (kind, faces))
                    self.assertTrue(first_form(body) == body)
                    self.assertLessEqual(code_of(body), code_of(body.mirrored()))
                    codes.append(code_of(body))
                self.assertEqual(codes, sorted(set(codes)))

    def test_drawn_bodies_are_listed(self):
        for kind, faces in (("square", 4), ("triangle", 6)):
            seen = set()
            listed = [code_of(body) for body in bodies_of(kind, faces)]
            for seed in range(250):
                body = drawn_body(kind, faces, seed)
                code = min(code_of(body), code_of(body.mirrored()))
                self.assertIn(code, listed)
                seen.add(code)
            self.assertEqual(seen, set(listed))

    def test_tallies(self):
        for kind, most in (("square", 4), ("triangle", 6)):
            for faces in range(1, most + 1):
                tallies = [body.tally for body in bodies_of(kind, faces)]
                told = tallies_of(kind, faces)
                self.assertEqual(told, tuple(sorted((tally, tallies.count(tally)) for tally in set(tallies))))
        self.assertEqual(tallies_of("triangle", 5), ())
        self.assertEqual(bodies_of("triangle", 1), ())

    def test_what_is_refused_in_order(self):
        for ask in (bodies_of, tallies_of):
            for value in ODD_VALUES + ("cube", "Square"):
                self.assertEqual(raised(ask, value, None), ("BadKind", "kind"))
            for kind, most in (("square", 4), ("triangle", 6)):
                for value in ODD_VALUES + (0, most + 1, 10 ** 40, "1", [1]):
                    self.assertEqual(raised(ask, kind, value), ("BadNumber", "faces"))
                self.assertIsNone(raised(ask, kind, most))


if __name__ == "__main__":
    unittest.main()
