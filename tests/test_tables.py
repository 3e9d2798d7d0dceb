"""Tables: what a desk keeps."""

import unittest

from plain import ODD_VALUES, raised
from rimsewn.bodies import Body
from rimsewn.books import Book
from rimsewn.rims import Rim
from rimsewn.sayings import Bears, Joined, Meet, Places, Tips
from rimsewn.sheets import Sheet
from rimsewn.tables import Table

SQUARE, TRIANGLE = Sheet.single("square"), Sheet.single("triangle")
DOMINO = SQUARE.put_on(1)
CAP = Body.read("square 1 : 0 1 / 2 3")
THINGS = [("b", DOMINO), ("a", CAP), ("c", SQUARE)]


class TablesTest(unittest.TestCase):
    def test_what_is_told(self):
        facts = [Joined(0, 1), ~Meet(1, 3)]
        table = Table(THINGS, "b", facts)
        self.assertEqual(table.things, tuple(THINGS))
        self.assertEqual((table.hand, table.facts, table.names), ("b", tuple(facts), ("b", "a", "c")))
        self.assertTrue(table.book == Book(Rim.of(DOMINO), facts))
        self.assertIsNone(table.book.colours)
        for name, thing in THINGS:
            self.assertTrue(table.thing(name) == thing)
        empty = Table()
        self.assertEqual((empty.things, empty.hand, empty.facts, empty.names, empty.book), ((), None, (), (), None))

    def test_by_name(self):
        self.assertTrue(Table(things=THINGS, hand="c", facts=[Tips(0, 1)]) == Table(THINGS, "c", (Tips(0, 1),)))
        self.assertTrue(Table(THINGS) == Table(THINGS, None, []))

    def test_lists_and_tuples(self):
        table = Table([["a", SQUARE], ("b", CAP)], "a", [])
        self.assertEqual(table.things, (("a", SQUARE), ("b", CAP)))
        self.assertEqual([type(pair) for pair in table.things], [tuple, tuple])
        self.assertIsInstance(table.facts, tuple)
        self.assertIsInstance(table.names, tuple)

    def test_what_is_passed_is_copied(self):
        things, facts = [["a", SQUARE], ["b", DOMINO]], [Joined(0, 1)]
        table = Table(things, "a", facts)
        things[0][0] = "z"
        things.append(("y", CAP))
        facts.append(Meet(0, 2))
        self.assertEqual(table.names, ("a", "b"))
        self.assertEqual(table.facts, (Joined(0, 1),))
        self.assertEqual(len(table.book), 1)

    def test_things(self):
        for value in [value for value in ODD_VALUES if value not in ([], ())] + [
                "ab", SQUARE, [SQUARE], [("a",)], [("a", SQUARE, 1)], [("A", SQUARE)], [("", SQUARE)], [("a" * 13, SQUARE)], [(1, SQUARE)], [("a", None)],
                [("a", SQUARE.skin)], [("a", str(SQUARE))], [("a", SQUARE), None], [(SQUARE, "a")], {"a": SQUARE}, [["a", Rim.of(SQUARE)]], [{"a", 1}],
                [("a", [SQUARE])], [("a", Sheet)]]:
            self.assertEqual(raised(Table, value, 0, 0), ("BadDesk", "things"), value)
        self.assertEqual(raised(Table, [("a", SQUARE), ("b", CAP), ("b", CAP), ("a", SQUARE)], 0, 0), ("Twice", "b"))
        self.assertEqual(raised(Table, [("a", SQUARE), ("b", CAP), ("a", CAP), ("b", None)], 0, 0), ("BadDesk", "things"))

    def test_hand(self):
        for value in (True, False, 0, 1.0, "", "d", "A", "a", [], ("b",), {}, object(), SQUARE, 0, b"b", ["b"]):
            self.assertEqual(raised(Table, THINGS, value, 0), ("BadDesk", "hand"), value)
        self.assertEqual(raised(Table, (), "a", ()), ("BadDesk", "hand"))
        self.assertIsNone(raised(Table, THINGS, "c"))

    def test_facts_with_a_hand(self):
        rim = Rim.of(DOMINO)
        for facts in ODD_VALUES + ([Joined(0, 6)], [Meet(0, 9)], [Bears(6, 0, 1)], [Places(4, 0, 1)], [Tips(0, 1)] * 9, [Tips(0, 1)] * 8,
                                   [Bears(k, 0, 4) for k in range(5)], [Joined(0, 1), Joined(0, 7), Meet(0, 8)], [Joined(0, 1), None], Joined(0, 1)):
            self.assertEqual(raised(Table, THINGS, "b", facts), raised(Book, rim, facts), facts)
        self.assertEqual(raised(Table, THINGS, "b", None), ("BadSaying", "facts"))
        self.assertEqual(raised(Table, THINGS, "b", [Tips(0, 1)] * 9), ("TooMany", "facts", 8))
        self.assertEqual(raised(Table, THINGS, "c", [Joined(0, 5)]), ("NoEdge", 5))

    def test_facts_without_a_hand(self):
        for value in [value for value in ODD_VALUES if value not in ([], ())] + [[Joined(0, 1)], (Tips(0, 1),), "", 0, {}, None]:
            self.assertEqual(raised(Table, THINGS, None, value), ("BadDesk", "facts"), value)
        for value in ([], ()):
            self.assertIsNone(raised(Table, THINGS, None, value))

    def test_no_thing(self):
        table = Table(THINGS, "b")
        for value in ODD_VALUES + ("d", "A", "bb", ("b",), ["a"], SQUARE):
            self.assertEqual(raised(table.thing, value), ("NoName", value))
            self.assertEqual(raised(Table().thing, value), ("NoName", value))

    def test_equality(self):
        one = Table(THINGS, "b", [Joined(0, 1)])
        again = Table([("b", Sheet.read(str(DOMINO))), ("a", Body.read(str(CAP))), ("c", Sheet.single("square"))], "b", (Joined(0, 1),))
        self.assertTrue(one == again)
        for other in (Table(THINGS[::-1], "b", [Joined(0, 1)]), Table(THINGS[:2], "b", [Joined(0, 1)]), Table(THINGS, "b"), Table(THINGS), Table(),
                      Table(THINGS, "c", [Joined(0, 1)]), Table(THINGS, "b", [Joined(1, 0)]), Table(THINGS, "b", [Joined(0, 1), Joined(0, 1)]),
                      Table([("b", DOMINO), ("a", CAP), ("c", TRIANGLE)], "b", [Joined(0, 1)]),
                      Table([("b", DOMINO), ("a", CAP.mirrored()), ("c", Body.read("square 1 : 0 3 / 1 2"))], "b", [Joined(0, 1)])):
            self.assertFalse(one == other)
            self.assertTrue(one != other)
        for value in ODD_VALUES + (THINGS, one.things):
            self.assertFalse(one == value)
            self.assertFalse(value == one)
        self.assertTrue(Table() == Table((), None, ()))


if __name__ == "__main__":
    unittest.main()
