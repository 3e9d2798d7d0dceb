"""Ask lines: the answers, and each of their errors in order."""

import random
import unittest

from drawn import drawn_body
from plain import ODD_VALUES, raised
from plain_desk import DEEDS, OF_HAND, PlainDesk, Refused, lines_for
from rimsewn.bodies import Body
from rimsewn.desk_asks import answer_of
from rimsewn.desk_deeds import changed
from rimsewn.desk_lines import ASKS
from rimsewn.plates import doubled
from rimsewn.sayings import Bears, Joined, Meet, Tips
from rimsewn.sheets import Sheet
from rimsewn.slants import slanted
from rimsewn.tables import Table

SQUARE, TRIANGLE = Sheet.single("square"), Sheet.single("triangle")
DOMINO = SQUARE.put_on(1)
CAP = Body.read("square 1 : 0 1 / 2 3")
PILLOW = doubled(SQUARE)
TETRA = Body.read("triangle 4 : 0 3 / 1 6 / 2 9 / 4 11 / 5 7 / 8 10")
EMPTY = Table()
THINGS = (("dom", DOMINO), ("cap", CAP), ("pil", PILLOW), ("tet", TETRA), ("tri", TRIANGLE), ("l", slanted(CAP, 2, 1)), ("r", slanted(CAP, 1, 2)),
          ("m", drawn_body("square", 5, 1)), ("cap2", Body.read("square 1 : 0 3 / 1 2")))
TABLE = Table(THINGS, "dom", [Joined(0, 5)])
NONE_IN_HAND = Table(THINGS)


class AsksTest(unittest.TestCase):
    def told(self, table, **lines):
        for line, answer in lines.items():
            self.assertEqual(answer_of(table, line.replace("_", " ")), answer, line)

    def refused(self, table, line, *error):
        self.assertEqual(raised(answer_of, table, line), error, line)

    def test_of_the_things(self):
        self.told(TABLE, names="dom cap pil tet tri l r m cap2", hand="dom", show_dom="square 2 : 1 4", show_cap="square 1 : 0 1 / 2 3")
        self.told(NONE_IN_HAND, hand="-", show_tri="triangle 1 :")
        self.told(EMPTY, names="-", hand="-")
        self.refused(TABLE, "show x", "NoName", "x")
        self.refused(EMPTY, "show x", "NoName", "x")

    def test_of_the_sheet_in_hand(self):
        self.told(TABLE, amounts="1 2 1 1 2 1", facts="1", fact_0="joined 0 5", book="sewing", many="2", nth_0="0-5 1-2 3-4", nth_1="0-5 1-4 2-3",
                  kinds="2 0 2 1 / 2 1 0 1", clash="-")
        self.told(Table(THINGS, "tri"), amounts="1 1 1", facts="0", book="unsewn", many="0", kinds="-", clash="-")
        self.refused(TABLE, "fact 1", "NoFact", 1)
        self.refused(Table(THINGS, "tri"), "fact 0", "NoFact", 0)
        self.refused(TABLE, "nth 2", "BadNumber", "number")
        self.refused(TABLE, "nth " + "9" * 60, "BadNumber", "number")

    def test_the_example_kinds(self):
        table = Table([("a", DOMINO)], "a")
        self.assertEqual(answer_of(table, "kinds"), "0 4 0 1 / 2 0 2 2 / 2 1 0 2")
        self.assertEqual(answer_of(table, "many"), "5")

    def test_words(self):
        self.told(TABLE, word_joined_0_5="always", word_joined_0_1="never", word_joined_1_2="both", word_not_joined_0_1="always")
        self.refused(TABLE, "word joined 0 9", "NoEdge", 9)
        self.refused(TABLE, "word places 4 0 1", "BadSaying", "amount")
        marked = Table(THINGS, "dom", [Bears(corner, 0, 4) for corner in range(4)])
        self.refused(marked, "word meet 4 5", "TooMany", "marks", 4)
        self.told(marked, word_meet_0_2=answer_of(Table(THINGS, "dom"), "word meet 0 2"))
        # What is not possible comes ahead of too many marks, and behind what the saying names.
        none = Table(THINGS, "dom", [Bears(corner, 0, 4) for corner in range(3)] + [Bears(3, 9, 9)])
        self.assertEqual(raised(answer_of, none, "word meet 4 5")[0], "Impossible")
        self.refused(none, "word meet 4 6", "NoCorner", 6)
        with self.assertRaises(ValueError) as caught:
            answer_of(none, "word tips 0 1")
        self.assertEqual(caught.exception.paper.word, "unsewn")

    def test_try(self):
        self.told(TABLE, try_joined_1_2="sewing", try_joined_0_1="unsewn", try_not_joined_0_5="unsewn", try_tips_0_9="sewing")
        self.refused(TABLE, "try joined 6 0", "NoEdge", 6)
        self.refused(Table(THINGS, "dom", [Tips(0, 9)] * 8), "try tips 0 9", "TooMany", "facts", 8)
        self.refused(Table(THINGS, "dom", [Tips(0, 9)] * 8), "try meet 0 6", "NoCorner", 6)
        self.refused(Table(THINGS, "dom", [Meet(0, 2), Meet(1, 3)]), "try bears 4 0 4", "TooMany", "marks", 4)
        # Of an impossible book it answers, too.
        self.told(Table(THINGS, "dom", [Meet(0, 2), Meet(1, 3)]), try_tips_0_9="unsewn", book="unsewn", many="0", kinds="-")

    def test_clashes(self):
        self.told(Table(THINGS, "dom", [Joined(0, 1), Meet(0, 2), Meet(1, 3)]), clash="0 2")
        self.told(Table(THINGS, "dom", [Tips(0, 9), Meet(0, 2), Joined(0, 3), Meet(1, 3)]), clash="1 2")
        self.told(Table(THINGS, "dom", [Tips(0, 9), Meet(0, 2), Tips(1, 9), Meet(1, 3)]), clash="1 3")
        # No sewing keeps the rim itself: a clash of no facts.
        self.told(Table(THINGS, "tri", [Tips(0, 9)]), clash="-")

    def test_of_bodies(self):
        self.told(TABLE, tally_cap="2 1 0", tally_tet="0 0 4 0 0", plate_cap="plate", plate_tet="noplate", plate_pil="plate", fewest_cap="2",
                  fewest_pil="3", fewest_tet="3", road_cap_1_2="2", road_cap_0_1="1")
        for word in ("tally", "plate", "fewest"):
            self.refused(TABLE, word + " x", "NoName", "x")
            self.refused(TABLE, word + " dom", "NoName", "dom")
        self.refused(TABLE, "road dom 0 0", "NoName", "dom")
        self.refused(TABLE, "road cap 3 9", "NoPlace", 3)
        self.refused(TABLE, "road cap 0 9", "NoPlace", 9)
        self.refused(TABLE, "road cap 2 2", "Twice", 2)
        tips = next(body for body in (drawn_body("triangle", 24, seed) for seed in range(99)) if len(body.tips) > 8)
        self.refused(Table([("big", tips)]), "fewest big", "TooMany", "tips", 8)

    def test_alike(self):
        self.told(TABLE, alike_cap_cap="faces", alike_cap_cap2="faces", alike_l_r="truth", alike_l_m="unlike", alike_cap_pil="unlike", alike_r_r="faces")
        self.refused(TABLE, "alike cap tet", "Misfit", "kind")
        self.refused(TABLE, "alike x y", "NoName", "x")
        self.refused(TABLE, "alike cap y", "NoName", "y")
        self.refused(TABLE, "alike dom y", "NoName", "dom")
        self.refused(TABLE, "alike cap tri", "NoName", "tri")
        # Mirrored ones are not asked for.
        body = next(body for body in (drawn_body("square", 7, seed) for seed in range(50)) if answer_of(
            Table([("a", body), ("b", body.mirrored())]), "alike a b") == "unlike")
        self.assertEqual(answer_of(Table([("a", body)]), "alike a a"), "faces")

    def test_nothing_in_hand(self):
        for table in (NONE_IN_HAND, EMPTY):
            for line in ("amounts", "facts", "fact 0", "book", "try joined 0 99", "many", "nth 0", "kinds", "word joined 0 99", "clash"):
                self.assertIn(line.split(" ")[0], OF_HAND)
                self.refused(table, line, "Nothing")
            for line in ("amounts 1", "fact", "fact x", "try", "try joined 0 0", "nth -1", "word tips 1 0"):
                self.assertEqual(raised(answer_of, table, line)[0], "BadText")

    def test_deed_lines(self):
        for word in DEEDS:
            for line in (word, word + " a", word + " 0 1 2", word + " ", word + " tips 0 1"):
                self.refused(TABLE, line, "BadText", 0, 0)
                self.refused(EMPTY, line, "BadText", 0, 0)

    def test_no_lines(self):
        for value in ODD_VALUES + ("", " ", "Names", "x", ["names"], b"names"):
            self.refused(TABLE, value, "BadText", 0, 0)
        for line, word in (("names a", 1), ("hand ", 1), ("show", 1), ("show A", 1), ("fact 00", 1), ("road cap 1", 3), ("road cap 1 2 0", 4), ("alike cap", 2),
                           ("book 1", 1), ("many many", 1)):
            self.refused(TABLE, line, "BadText", 0, word)

    def test_no_table(self):
        for value in ODD_VALUES + (THINGS, "dom", Table):
            self.assertEqual(raised(answer_of, value, "put a square 1 :"), ("BadDesk", "table"))
            self.assertEqual(raised(answer_of, value, None), ("BadDesk", "table"))

    def test_drawn_lines(self):
        draw = random.Random(2)
        counts = {}
        for _ in range(200):
            plain, table = PlainDesk(), EMPTY
            for _ in range(50):
                line = lines_for(plain, draw)
                word = line.split(" ")[0]
                before = Table(table.things, table.hand, table.facts)
                try:
                    answer = plain.copy().line(line) if word not in DEEDS else plain.line(line)
                except Refused as error:
                    told = raised(answer_of if word in ASKS else changed, table, line)
                    # The paper of an Impossible has an equal one each time.
                    self.assertEqual(told[0], error.args[0][0], line)
                    self.assertTrue(told == error.args[0], line)
                    counts[(word, error.args[0][0])] = 1
                    continue
                if word in DEEDS:
                    table = changed(table, line)[0]
                else:
                    told = answer_of(table, line)
                    self.assertIsInstance(told, str)
                    self.assertEqual(told, answer, line)
                    self.assertTrue(table == before)
                counts[word] = counts.get(word, 0) + 1
        self.assertGreaterEqual(set(counts), set(DEEDS + ASKS))
        self.assertGreater(len(counts), 50)


if __name__ == "__main__":
    unittest.main()
