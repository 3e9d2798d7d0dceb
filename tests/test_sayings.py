"""Sayings: what is refused, when they hold, texts."""

import unittest

from plain import ODD_VALUES, bent_texts, check_no_texts, check_reading, partner_rows, raised, random_amounts
from plain import whole_number
from rimsewn.nestings import Nesting
from rimsewn.rims import Rim
from rimsewn.sayings import Bears, Joined, Meet, Not, Places, Saying, Tips
from tables import plain_holds

DOMINO = Rim("square", [1, 2, 1, 1, 2, 1])
POCKET = Nesting([5, 2, 1, 4, 3, 0])
NUMBERS = {"joined": 2, "meet": 2, "bears": 3, "tips": 2, "places": 3}
NO_NUMBERS = tuple(value for value in ODD_VALUES if not isinstance(value, int) or isinstance(value, bool)) + (-1, -10 ** 30)


def can_stand(words):
    """Whether the last word can stand behind the others."""
    if words[0] == "not":
        return len(words) == 1 or (words[1] != "not" and can_stand(words[1:]))
    at = len(words) - 1
    if at == 0:
        return words[0] in NUMBERS
    number = whole_number(words[-1])
    if at > NUMBERS[words[0]] or number is None:
        return False
    if words[0] in ("joined", "meet") and at == 2:
        return number != int(words[1])
    if words[0] == "places" and at == 1:
        return 1 <= number <= 5
    return at < NUMBERS[words[0]] or number >= int(words[-2])


def lacks(words):
    plain = words[1:] if words[0] == "not" else words
    return not plain or len(plain) <= NUMBERS[plain[0]]


def sayings_of(rim):
    """Many sayings that name what the rim has."""
    edges = len(rim)
    pairs = [(one, other) for one in range(edges) for other in range(edges) if one != other]
    found = [Joined(one, other) for one, other in pairs] + [Meet(one, other) for one, other in pairs]
    spans = [(0, 0), (1, 2), (2, 2), (3, 4), (0, 10 ** 30), (4, 4), (6, 9)]
    found += [Bears(corner, low, high) for corner in range(edges) for low, high in spans]
    found += [Tips(low, high) for low, high in spans]
    found += [Places(amount, low, high) for amount in range(1, rim.full) for low, high in spans]
    return found


class SayingsTest(unittest.TestCase):
    def test_when_they_hold(self):
        seen = set()
        for kind in ("square", "triangle"):
            for edges in (4, 6, 8):
                rim = Rim(kind, random_amounts(kind, edges, 3))
                for row in partner_rows(edges):
                    nesting = Nesting(row)
                    for saying in sayings_of(rim):
                        holds = plain_holds(saying, rim, row)
                        self.assertIs(saying.holds(rim, nesting), holds)
                        self.assertIs((~saying).holds(rim, nesting), not holds)
                        seen.add((type(saying), holds))
        self.assertEqual(len(seen), 10)

    def test_classes(self):
        for made in (Joined, Meet, Bears, Tips, Places, Not):
            self.assertEqual(made.__bases__, (Saying,))
        self.assertIsInstance(~Tips(0, 0), Not)
        self.assertIsInstance(Joined(0, 1), Saying)

    def test_attributes_by_place_and_by_name(self):
        told = Bears(corner=3, low=1, high=2)
        self.assertEqual((told.corner, told.low, told.high), (3, 1, 2))
        told = Places(5, 0, 10 ** 40)
        self.assertEqual((told.amount, told.low, told.high), (5, 0, 10 ** 40))
        told = Tips(low=2, high=2)
        self.assertEqual((told.low, told.high), (2, 2))
        for made in (Joined, Meet):
            told = made(10 ** 30, other=0)
            self.assertEqual((told.one, told.other), (10 ** 30, 0))
        inner = Meet(0, 1)
        self.assertIs(Not(saying=inner).saying, inner)
        self.assertIs(~Not(inner), inner)
        self.assertTrue(~inner == Not(inner))

    def test_what_is_refused_in_order(self):
        for value in NO_NUMBERS:
            for made in (Joined, Meet):
                self.assertEqual(raised(made, value, value), ("BadSaying", "one"))
                self.assertEqual(raised(made, 0, value), ("BadSaying", "other"))
            self.assertEqual(raised(Bears, value, value, value), ("BadSaying", "corner"))
            self.assertEqual(raised(Bears, 0, value, value), ("BadSaying", "low"))
            self.assertEqual(raised(Bears, 0, 0, value), ("BadSaying", "high"))
            self.assertEqual(raised(Tips, value, value), ("BadSaying", "low"))
            self.assertEqual(raised(Tips, 0, value), ("BadSaying", "high"))
            self.assertEqual(raised(Places, value, value, value), ("BadSaying", "amount"))
            self.assertEqual(raised(Places, 1, value, value), ("BadSaying", "low"))
            self.assertEqual(raised(Places, 1, 0, value), ("BadSaying", "high"))
        for made in (Joined, Meet):
            self.assertEqual(raised(made, 3, 3), ("Twice", 3))
            self.assertEqual(raised(made, 0, 0), ("Twice", 0))
        self.assertEqual(raised(Bears, 0, 2, 1), ("BadSaying", "high"))
        self.assertEqual(raised(Tips, 2, 1), ("BadSaying", "high"))
        self.assertEqual(raised(Places, 1, 2, 1), ("BadSaying", "high"))
        self.assertEqual(raised(Places, 0, 2, 1), ("BadSaying", "amount"))
        self.assertEqual(raised(Places, 6, 0, 1), ("BadSaying", "amount"))
        for value in ODD_VALUES + (~Meet(0, 1), "meet 0 1", Saying):
            self.assertEqual(raised(Not, value), ("BadSaying", "saying"))

    def test_what_they_name(self):
        for saying, error in ((Joined(6, 7), ("NoEdge", 6)), (Joined(0, 6), ("NoEdge", 6)), (Joined(9, 0), ("NoEdge", 9)),
                              (Meet(6, 7), ("NoCorner", 6)), (Meet(0, 8), ("NoCorner", 8)),
                              (Bears(6, 0, 0), ("NoCorner", 6)), (Places(4, 0, 0), ("BadSaying", "amount")),
                              (Places(5, 0, 0), ("BadSaying", "amount")), (Tips(60, 90), None), (Places(3, 8, 9), None)):
            self.assertEqual(raised(saying.holds, DOMINO, POCKET), error)
            self.assertEqual(raised((~saying).holds, DOMINO, POCKET), error)
        triangle = Rim("triangle", [1, 2, 1, 2])
        self.assertIs(Places(5, 0, 0).holds(triangle, Nesting([1, 0, 3, 2])), True)

    def test_holds_refuses_in_order(self):
        for saying in (Joined(7, 8), Meet(7, 8), Bears(7, 0, 0), Tips(0, 1), Places(5, 0, 1)):
            for told in (saying, ~saying):
                for value in ODD_VALUES + (POCKET,):
                    self.assertEqual(raised(told.holds, value, None), ("BadRim", "rim"))
                for value in ODD_VALUES + (DOMINO,):
                    self.assertEqual(raised(told.holds, DOMINO, value), ("BadNesting", "nesting"))
                self.assertEqual(raised(told.holds, DOMINO, Nesting([1, 0])), ("Misfit", "edges"))

    def test_equality(self):
        told = [Joined(0, 1), Joined(1, 0), Meet(0, 1), Bears(0, 1, 2), Bears(0, 1, 3), Bears(0, 0, 2), Bears(1, 1, 2),
                Tips(0, 1), Tips(1, 1), Tips(0, 2), Places(1, 0, 1), Places(2, 0, 1), Places(1, 1, 1), Places(1, 0, 2)]
        told += [~saying for saying in told]
        again = [Saying.read(str(saying)) for saying in told]
        for at, one in enumerate(told):
            for index, other in enumerate(again):
                self.assertIs(one == other, at == index)
            for other in (str(one), None, 0):
                self.assertFalse(one == other)

    def test_texts(self):
        self.assertEqual([str(one) for one in (Joined(0, 12), Meet(3, 1), Bears(2, 1, 3), Tips(0, 8), Places(1, 2, 2))],
                         ["joined 0 12", "meet 3 1", "bears 2 1 3", "tips 0 8", "places 1 2 2"])
        self.assertEqual(str(~Joined(0, 1)), "not joined 0 1")
        self.assertEqual(str(Saying.read("tips 0 " + "9" * 60)), "tips 0 " + "9" * 60)

    def test_bent_texts(self):
        words = ("", "0", "1", "2", "3", "6", "5", "-1", "+1", "01", "x", "not", "meet", "tips", "bears", "places",
                 "joined", "Meet", "9\n", "9" * 61)
        for text in ("joined 2 1", "meet 0 5", "bears 0 1 3", "tips 1 2", "places 1 2 2", "tips 0 0", "places 5 0 9"):
            check_reading(self, Saying.read, bent_texts(text, words) + [text], can_stand, lacks)
            check_reading(self, Saying.read, bent_texts("not " + text, words) + ["not " + text], can_stand, lacks)
        check_reading(self, Saying.read, ["", " ", "not", "not not", "not not tips 0 1", "tips", "bears 2 3 1"],
                      can_stand, lacks)
        check_no_texts(self, Saying.read)


if __name__ == "__main__":
    unittest.main()
