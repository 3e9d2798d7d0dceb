"""Questions that can be asked of any value."""

import unittest

from plain import ODD_VALUES, raised
from rimsewn.checks import are_numbers, first_twice, is_integer, is_kind, is_name, is_row, is_within
from rimsewn.errors import SewError
from rimsewn.grids import full_of, sides_of


class AnyEqual:
    """Equals everything, and so tries to pass for it."""

    def __eq__(self, other):
        return True

    __hash__ = None


class ChecksTest(unittest.TestCase):
    def test_integers(self):
        for value in (0, 1, -1, 10 ** 80, -10 ** 80):
            self.assertIs(is_integer(value), True)
        for value in (True, False, None, 1.0, "1", b"1", [], [1], (1,), {}, SewError(), AnyEqual()):
            self.assertIs(is_integer(value), False)

    def test_within(self):
        self.assertEqual([is_within(value, 2, 4) for value in (1, 2, 3, 4, 5)], [False, True, True, True, False])
        self.assertEqual([is_within(value, None, 4) for value in (-10 ** 50, 4, 5)], [True, True, False])
        self.assertEqual([is_within(value, 2, None) for value in (1, 2, 10 ** 50)], [False, True, True])
        self.assertEqual([is_within(value, 3, 3) for value in (2, 3, 4)], [False, True, False])
        self.assertEqual([is_within(value, 4, 3) for value in (3, 4)], [False, False])
        self.assertIs(is_within(-7, None, None), True)
        for value in (True, False, None, "3", 3.0, [3], AnyEqual(), SewError()):
            self.assertIs(is_within(value, None, None), False)
            self.assertIs(is_within(value, 0, 5), False)

    def test_kinds(self):
        self.assertEqual([is_kind("square"), is_kind("triangle")], [True, True])
        for value in ODD_VALUES + ("Square", "square\n", " square", "cube", ["square"], b"square", AnyEqual()):
            self.assertIs(is_kind(value), False)

    def test_names(self):
        for value in ("a", "z", "a0", "z9", "abcdefghijkl", "a12345678901"):
            self.assertIs(is_name(value), True)
        for value in ODD_VALUES + ("A", "0", "0a", "abcdefghijklm", "a b", "a\n", "a\t", "\na", "a_b", "a-b", "aB",
                                   "\u00e4", "a\u00e9", "a\u0661", b"a", ["a"], ("a",), SewError("a"), AnyEqual()):
            self.assertIs(is_name(value), False, value)

    def test_rows(self):
        for value in ([], (), [1], (1, 2), [0, -5, 10 ** 40]):
            self.assertIs(is_row(value), True)
        for value in (None, 1, "12", b"12", {1: 2}, {1}, range(3), [True], (1, False), [None], [[1]], [1.0], ["1"],
                      SewError(1), AnyEqual()):
            self.assertIs(is_row(value), False)

    def test_ascending_numbers(self):
        for value in ([], (), [0], (0, 1, 2), [2, 4]):
            self.assertIs(are_numbers(value, 5), True)
        for value in ([5], [-1], [1, 1], [2, 1], [0, 1, 0], [True], [0, 1.0], ["0"], None, "01", {0: 1}, [[0]], [10 ** 30]):
            self.assertIs(are_numbers(value, 5), False)
        self.assertIs(are_numbers([], 0), True)
        self.assertIs(are_numbers([0], 0), False)

    def test_first_twice(self):
        self.assertIsNone(first_twice([]))
        self.assertIsNone(first_twice((3, 1, 2)))
        self.assertEqual(first_twice([1, 2, 3, 2, 1]), 2)
        self.assertEqual(first_twice((0, 0)), 0)
        self.assertEqual(first_twice(["b", "a", "a", "b"]), "a")
        self.assertIsNone(first_twice(["1", 1]))

    def test_what_is_passed_stays(self):
        row = [1, [2], "x", 1]
        self.assertFalse(is_row(row))
        self.assertEqual(row, [1, [2], "x", 1])
        numbers = [4, 4, 2]
        first_twice(numbers)
        self.assertEqual(numbers, [4, 4, 2])

    def test_grids(self):
        self.assertEqual([(sides_of(kind), full_of(kind)) for kind in ("square", "triangle")], [(4, 4), (3, 6)])
        for value in ODD_VALUES + ("cube", AnyEqual()):
            self.assertEqual(raised(sides_of, value), ("BadKind", "kind"))
            self.assertEqual(raised(full_of, value), ("BadKind", "kind"))


if __name__ == "__main__":
    unittest.main()
