"""Vectors, against numbers in the plane, for both kinds of grid."""

import random
import unittest

from plain import ODD_VALUES, raised
from rimsewn.vectors import flipped, product, quotient, square_of, times, turned, vectors_of

KINDS = ("square", "triangle")
NO_VECTORS = (None, True, 0, "", "12", b"ab", [], (), [1], [1, 2, 3], [1, None], [True, 1], [0, False], [1.0, 2], {1: 2, 3: 4}, {1, 2},
              (1, "2"), [[1, 2], [3, 4]], object())


def plane(kind, vector):
    """The vector as a number of the plane."""
    second = 1j if kind == "square" else complex(0.5, 3 ** 0.5 / 2)
    return vector[0] + vector[1] * second


def drawn_vectors(many, most=30):
    draw = random.Random(7)
    return [(draw.randrange(-most, most), draw.randrange(-most, most)) for _ in range(many)]


class VectorsTest(unittest.TestCase):
    def near(self, one, other):
        self.assertLess(abs(one - other), 1e-6)

    def test_squares_and_products(self):
        for kind in KINDS:
            for one, other in zip(drawn_vectors(60), drawn_vectors(120)[60:]):
                self.near(square_of(kind, one), abs(plane(kind, one)) ** 2)
                p, q = plane(kind, one), plane(kind, other)
                self.near(product(kind, one, other), 2 * (p.real * q.real + p.imag * q.imag))
                self.assertEqual(product(kind, list(one), other), product(kind, other, one))
                self.assertEqual(product(kind, one, one), 2 * square_of(kind, one))
        self.assertEqual([square_of(kind, (0, 0)) for kind in KINDS], [0, 0])
        self.assertEqual(square_of("triangle", (10 ** 40, 1)), 10 ** 80 + 10 ** 40 + 1)

    def test_turned(self):
        for kind, full in (("square", 4), ("triangle", 6)):
            turn = plane(kind, (0, 1))
            for vector in drawn_vectors(30):
                for many in (0, 1, 2, 3, 5, 7, 24, 25, -1, -2, -5, -13):
                    told = turned(kind, vector, many)
                    self.assertIsInstance(told, tuple)
                    self.near(plane(kind, told), plane(kind, vector) * turn ** many)
                self.assertEqual(turned(kind, vector, full), vector)
                self.assertEqual(turned(kind, vector, 10 ** 30 * full - 1), turned(kind, vector, -1))
                self.assertEqual(turned(kind, list(turned(kind, vector, 4)), -4), vector)

    def test_flipped(self):
        for kind in KINDS:
            for vector in drawn_vectors(30):
                told = flipped(kind, list(vector))
                self.near(plane(kind, told), plane(kind, vector).conjugate())
                self.assertEqual(flipped(kind, told), vector)
                self.assertIsInstance(told, tuple)
            self.assertEqual(flipped(kind, (1, 0)), (1, 0))

    def test_times_and_quotient(self):
        for kind in KINDS:
            for one, other in zip(drawn_vectors(80, 12), drawn_vectors(160, 12)[80:]):
                told = times(kind, one, list(other))
                self.assertIsInstance(told, tuple)
                self.near(plane(kind, told), plane(kind, one) * plane(kind, other))
                self.assertEqual(square_of(kind, told), square_of(kind, one) * square_of(kind, other))
                if other != (0, 0):
                    self.assertEqual(quotient(kind, told, other), one)
            self.assertEqual(times(kind, (0, 1), (2, 1)), turned(kind, (2, 1), 1))
            self.assertEqual(times(kind, (1, 0), (2, 1)), (2, 1))

    def test_quotients_that_are_none(self):
        for kind in KINDS:
            none = 0
            for one in drawn_vectors(40, 6):
                for other in drawn_vectors(20, 4):
                    if other == (0, 0):
                        continue
                    right = [(a, b) for a in range(-14, 15) for b in range(-14, 15) if times(kind, (a, b), other) == one]
                    self.assertEqual(quotient(kind, one, other), right[0] if right else None)
                    none += not right
            self.assertGreater(none, 100)
            self.assertEqual(quotient(kind, (0, 0), (3, 1)), (0, 0))
            for value in ((0, 0), [0, 0]):
                self.assertEqual(raised(quotient, kind, (1, 0), value), ("BadNumber", "other"))
            self.assertEqual(raised(quotient, kind, None, (0, 0)), ("BadNumber", "one"))

    def test_all_vectors_of_a_square(self):
        for kind in KINDS:
            for square in (1, 2, 3, 5, 7, 25, 49, 65, 91, 399, 400):
                right = [(a, b) for a in range(1, 40) for b in range(40) if square_of(kind, (a, b)) == square]
                self.assertEqual(vectors_of(kind, square), tuple(right))
        self.assertEqual(sum(len(vectors_of("square", square)) for square in range(1, 401)),
                         sum(1 for a in range(1, 21) for b in range(21) if a * a + b * b <= 400))
        self.assertIn((20, 0), vectors_of("square", 400))
        self.assertEqual(vectors_of("triangle", 400), ((20, 0),))
        self.assertEqual(vectors_of("square", 3), ())

    def test_what_is_refused_in_order(self):
        for kind in ODD_VALUES + ("cube",):
            for ask, rest in ((square_of, (None,)), (product, (None, None)), (turned, (None, None)), (flipped, (None,)),
                              (times, (None, None)), (quotient, (None, None)), (vectors_of, (None,))):
                self.assertEqual(raised(ask, kind, *rest), ("BadKind", "kind"))
        for kind in KINDS:
            for value in NO_VECTORS:
                self.assertEqual(raised(square_of, kind, value), ("BadNumber", "vector"))
                self.assertEqual(raised(flipped, kind, value), ("BadNumber", "vector"))
                self.assertEqual(raised(turned, kind, value, None), ("BadNumber", "vector"))
                for ask in (product, times, quotient):
                    self.assertEqual(raised(ask, kind, value, None), ("BadNumber", "one"))
                    self.assertEqual(raised(ask, kind, (1, 2), value), ("BadNumber", "other"))
            for value in ODD_VALUES + ("1", [1], 1.0):
                if value != -1:
                    self.assertEqual(raised(turned, kind, (1, 2), value), ("BadNumber", "many"))
            for value in ODD_VALUES + (0, 401, "1", [1], 10 ** 30, 1.0):
                self.assertEqual(raised(vectors_of, kind, value), ("BadNumber", "square"))


if __name__ == "__main__":
    unittest.main()
