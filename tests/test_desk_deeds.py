"""Deed lines: what they do to a table, and each of their errors in order."""

import random
import unittest

from drawn import drawn_body
from plain import ODD_VALUES, raised
from plain_desk import DEEDS, PlainDesk, Refused, lines_for
from rimsewn.bodies import Body, sewn
from rimsewn.cuts import Cut
from rimsewn.desk_deeds import changed
from rimsewn.desk_lines import ASKS
from rimsewn.nestings import Nesting
from rimsewn.opened import opened
from rimsewn.sayings import Bears, Joined, Meet, Tips
from rimsewn.sheets import Sheet
from rimsewn.tables import Table

SQUARE, TRIANGLE = Sheet.single("square"), Sheet.single("triangle")
DOMINO = SQUARE.put_on(1)
CAP = Body.read("square 1 : 0 1 / 2 3")
EMPTY = Table()
THINGS = (("dom", DOMINO), ("cap", CAP), ("sq", SQUARE))
TABLE = Table(THINGS, "dom", [Joined(0, 5), Tips(0, 9), ~Meet(1, 2)])
NONE_IN_HAND = Table(THINGS)


class DeedsTest(unittest.TestCase):
    def done(self, table, line, later, answer):
        """Checks a line, and that the table stays."""
        before = Table(table.things, table.hand, table.facts)
        told = changed(table, line)
        self.assertIsInstance(told, tuple)
        self.assertEqual(len(told), 2)
        self.assertIsInstance(told[0], Table)
        self.assertTrue(told[0] == later, line)
        self.assertEqual(told[1], answer)
        self.assertTrue(table == before)

    def refused(self, table, line, *error):
        before = Table(table.things, table.hand, table.facts)
        self.assertEqual(raised(changed, table, line), error, line)
        self.assertTrue(table == before)

    def test_put(self):
        self.done(EMPTY, "put a square 1 :", Table([("a", SQUARE)]), "1")
        self.done(TABLE, "put a triangle 1 :", Table(THINGS + (("a", TRIANGLE),), "dom", TABLE.facts), "4")
        self.refused(TABLE, "put cap square 1 :", "Twice", "cap")
        self.refused(EMPTY, "put a square 2 :", "BadText", 0, 4)
        self.refused(TABLE, "put cap square 2 :", "BadText", 0, 4)

    def test_take(self):
        self.done(NONE_IN_HAND, "take dom", Table(THINGS, "dom"), "6")
        self.done(TABLE, "take sq", Table(THINGS, "sq"), "4")
        # All facts are struck, also if it was in hand.
        self.done(TABLE, "take dom", Table(THINGS, "dom"), "6")
        self.refused(TABLE, "take cap", "NoName", "cap")
        self.refused(TABLE, "take x", "NoName", "x")
        self.refused(EMPTY, "take x", "NoName", "x")

    def test_sew(self):
        body = sewn(DOMINO, Nesting.read("0-5 1-2 3-4"))
        self.done(TABLE, "sew pad 0-5 1-2 3-4", Table(THINGS + (("pad", body),), "dom", TABLE.facts), "4")
        # The facts are not asked.
        self.done(TABLE, "sew pad 0-1 2-3 4-5", Table(THINGS + (("pad", sewn(DOMINO, Nesting.read("0-1 2-3 4-5"))),), "dom", TABLE.facts), "4")
        self.refused(NONE_IN_HAND, "sew dom 0-1", "Nothing")
        self.refused(TABLE, "sew dom 0-1", "Twice", "dom")
        self.refused(TABLE, "sew x 0-1", "Misfit", "edges")
        slit = Sheet.read("square 4 : 1 7 / 6 8 / 11 13")
        table = Table([("s", slit)], "s")
        nesting = "0-9 1-2 3-4 5-6 7-8"
        self.refused(table, "sew x " + nesting, *raised(sewn, slit, Nesting.read(nesting)))
        self.assertEqual(raised(sewn, slit, Nesting.read(nesting))[0], "TooMuch")
        self.refused(NONE_IN_HAND, "sew x 0-2", "BadText", 0, 2)

    def test_open(self):
        pillow = Body.read("square 2 : 0 4 / 1 7 / 2 6 / 3 5")
        table = Table([("p", pillow), ("s", SQUARE)], "s", [Joined(0, 1)])
        sheet = opened(Cut(pillow, [0, 2, 3]))
        self.done(table, "open p flat 3 0 2", Table(table.things + (("flat", sheet),), "s", table.facts), "6")
        self.done(Table([("p", pillow)]), "open p flat 0 2 3", Table([("p", pillow), ("flat", sheet)]), "6")
        self.refused(table, "open s s 0", "NoName", "s")
        self.refused(table, "open x s 0", "NoName", "x")
        self.refused(table, "open p s 0", "Twice", "s")
        self.refused(table, "open p p 9", "Twice", "p")
        for numbers, part in (("0 1 2 3", "ring"), ("0 0 1", "seams"), ("0 1 4", "seams"), ("0", "tips"), ("9" * 60, "seams")):
            self.refused(table, "open p flat " + numbers, "BadCut", part)
        across = [seam for seam in (1, 2, 3) if raised(Cut, pillow, [0, seam]) == ("BadCut", "pieces")]
        self.refused(table, f"open p flat 0 {across[0]}", "BadCut", "pieces")

    def test_drop(self):
        self.done(TABLE, "drop cap", Table((THINGS[0], THINGS[2]), "dom", TABLE.facts), "2")
        self.done(TABLE, "drop sq", Table(THINGS[:2], "dom", TABLE.facts), "2")
        # With the sheet in hand all facts go.
        self.done(TABLE, "drop dom", Table(THINGS[1:]), "2")
        self.done(Table([("a", SQUARE)]), "drop a", EMPTY, "0")
        self.done(Table([("a", SQUARE)], "a", [Joined(0, 1)]), "drop a", EMPTY, "0")
        self.refused(TABLE, "drop x", "NoName", "x")
        self.refused(EMPTY, "drop a", "NoName", "a")

    def test_tell(self):
        self.done(TABLE, "tell bears 0 1 2", Table(THINGS, "dom", TABLE.facts + (Bears(0, 1, 2),)), "3")
        self.done(Table(THINGS, "sq"), "tell not joined 0 1", Table(THINGS, "sq", [~Joined(0, 1)]), "0")
        # The book need not be possible.
        self.done(TABLE, "tell not joined 0 5", Table(THINGS, "dom", TABLE.facts + (~Joined(0, 5),)), "3")
        self.refused(NONE_IN_HAND, "tell joined 0 9", "Nothing")
        self.refused(TABLE, "tell joined 0 9", "NoEdge", 9)
        self.refused(TABLE, "tell not meet 6 0", "NoCorner", 6)
        self.refused(TABLE, "tell places 4 0 1", "BadSaying", "amount")
        self.refused(NONE_IN_HAND, "tell joined 0 0", "BadText", 0, 3)

    def test_a_ninth_fact_and_a_fifth_mark(self):
        eight = Table(THINGS, "dom", [Tips(0, 9)] * 8)
        self.refused(eight, "tell tips 0 9", "TooMany", "facts", 8)
        self.refused(eight, "tell joined 0 6", "NoEdge", 6)
        self.done(Table(THINGS, "dom", [Tips(0, 9)] * 7), "tell tips 0 9", eight, "7")
        marked = Table(THINGS, "dom", [Meet(0, 2), Meet(1, 3)])
        self.refused(marked, "tell bears 4 0 4", "TooMany", "marks", 4)
        self.done(marked, "tell bears 3 0 4", Table(THINGS, "dom", marked.facts + (Bears(3, 0, 4),)), "2")
        both = Table(THINGS, "dom", [Meet(0, 2), Meet(1, 3)] * 4)
        self.refused(both, "tell bears 4 0 4", "TooMany", "facts", 8)

    def test_strike(self):
        one, two, three = TABLE.facts
        self.done(TABLE, "strike 1", Table(THINGS, "dom", [one, three]), "2")
        self.done(TABLE, "strike 2 0", Table(THINGS, "dom", [two]), "1")
        self.done(TABLE, "strike 0 2 1", Table(THINGS, "dom"), "0")
        self.refused(NONE_IN_HAND, "strike 0", "Nothing")
        self.refused(TABLE, "strike 3", "NoFact", 3)
        self.refused(TABLE, "strike 0 0 7 8", "NoFact", 7)
        self.refused(TABLE, "strike 1 2 2 1", "Twice", 2)
        self.refused(Table(THINGS, "dom"), "strike 0", "NoFact", 0)

    def test_ask_lines(self):
        for word in ASKS:
            for line in (word, word + " a", word + " 0 1 2", word + " ", word + " tips 0 1"):
                self.refused(TABLE, line, "BadText", 0, 0)
                self.refused(EMPTY, line, "BadText", 0, 0)

    def test_no_lines(self):
        for value in ODD_VALUES + ("", " ", "Put a square 1 :", "x", ["put"], b"take dom"):
            self.refused(TABLE, value, "BadText", 0, 0)
        for line, word in (("take", 1), ("take dom dom", 2), ("put", 1), ("put x", 2), ("strike", 1), ("strike x", 1), ("drop ", 1), ("tell", 1),
                           ("open cap", 2), ("open cap x", 3), ("sew", 1), ("sew x", 2)):
            self.refused(TABLE, line, "BadText", 0, word)
            self.refused(EMPTY, line, "BadText", 0, word)

    def test_no_table(self):
        for value in ODD_VALUES + (THINGS, "dom", Table):
            self.assertEqual(raised(changed, value, "names"), ("BadDesk", "table"))
            self.assertEqual(raised(changed, value, None), ("BadDesk", "table"))

    def test_drawn_lines(self):
        draw = random.Random(1)
        counts = {}
        for _ in range(200):
            plain, table = PlainDesk(), EMPTY
            for _ in range(90):
                line = lines_for(plain, draw)
                word = line.split(" ")[0]
                if word not in DEEDS:
                    continue
                copy = plain.copy()
                try:
                    answer = plain.line(line)
                except Refused as error:
                    plain = copy
                    self.refused(table, line, *error.args[0])
                    counts[(word, error.args[0][0])] = counts.get((word, error.args[0][0]), 0) + 1
                    continue
                things = [(name, plain.things[name]) for name in plain.names]
                self.done(table, line, Table(things, plain.hand, plain.facts), answer)
                table = changed(table, line)[0]
                counts[word] = counts.get(word, 0) + 1
        self.assertGreaterEqual(set(counts), set(DEEDS))
        self.assertGreater(len(counts), 24)

    def test_large_things(self):
        body = drawn_body("square", 24, 1)
        table = Table([("big", body)])
        leads = [raised(changed, table, f"open big new {seam}") for seam in range(48)]
        self.assertTrue(all(error is not None and error[0] == "BadCut" for error in leads))
        tree = []
        for seam in range(48):
            if raised(Cut, body, tree + [seam]) != ("BadCut", "ring"):
                tree.append(seam)
        later, answer = changed(table, "open big new " + " ".join(map(str, tree)))
        self.assertEqual(answer, str(2 * len(tree)))
        self.assertEqual(len(later.thing("new")), 50)


if __name__ == "__main__":
    unittest.main()
