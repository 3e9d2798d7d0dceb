"""The desk: told, tried, called; undo and redo; twins; size, names, equality."""

import random
import unittest

from plain import ODD_VALUES, fields
from plain_desk import DEEDS, PlainDesk, Refused, lines_for
from rimsewn import errors
from rimsewn.desk import Desk
from rimsewn.desk_lines import ASKS
from rimsewn.sayings import Joined
from rimsewn.sheets import Sheet
from rimsewn.tables import Table

FIRST = ("put dom square 2 : 1 7", "take dom", "tell joined 0 5", "sew pad 0-5 1-2 3-4")


def error_of(action, *args):
    """The error that a call raises."""
    try:
        action(*args)
    except errors.SewError as error:
        return error
    return None


def state_of(desk):
    """All that can be seen of a desk, what can be taken back and done again, too."""
    twin = desk.twin()
    undone = []
    while error_of(twin.redo) is None:
        undone.append((twin.story[-1], twin.table.names, twin.table.hand, twin.table.facts))
    tables = []
    while twin.story:
        tables.append((twin.story, twin.table.names, twin.table.hand, twin.table.facts))
        twin.undo()
    return desk.table.things, desk.table.hand, desk.table.facts, desk.story, tables, undone


def begun(*more):
    desk = Desk()
    desk.told(*FIRST, *more)
    return desk


class ToldTest(unittest.TestCase):
    def test_an_empty_desk(self):
        desk = Desk()
        self.assertTrue(desk.table == Table())
        self.assertEqual((desk.story, len(desk)), ((), 0))
        self.assertEqual(desk("names"), "-")

    def test_answers(self):
        desk = Desk()
        self.assertEqual(desk.told("put dom square 2 : 1 7", "take dom", "many", "tell joined 0 5", "many", "sew pad 0-5 1-2 3-4", "tally pad"),
                         ("1", "6", "5", "0", "2", "2", "2 1 0"))
        self.assertEqual(desk.told(), ())
        self.assertEqual(desk.told("facts"), ("1",))
        self.assertEqual(desk("fact 0"), "joined 0 5")
        self.assertEqual(desk.story, FIRST)
        self.assertTrue(desk.table == Table(desk.table.things, "dom", [Joined(0, 5)]))
        self.assertEqual(desk.table.names, ("dom", "pad"))

    def test_a_line_that_fails(self):
        for at, lines, wanted in ((2, ("take dom", "facts", "fact 0"), errors.NoFact(0)), (0, ("take x",), errors.NoName("x")),
                                  (1, ("drop dom", "many", "names"), errors.Nothing()), (3, ("strike 0", "drop pad", "put pad square 1 :", "put pad square 1 :"), errors.Twice("pad")),
                                  (1, ("names", 7, "drop dom"), errors.BadText(0, 0)), (2, ("tell tips 0 9", "hand", "tell tips 1 0"), errors.BadText(0, 3)),
                                  (1, ("tell tips 0 9", None), errors.BadText(0, 0)), (0, ("",), errors.BadText(0, 0))):
            desk = begun()
            before = state_of(desk)
            for asked in (desk.told, desk.tried):
                error = error_of(asked, *lines)
                self.assertIs(type(error), errors.BadLine)
                self.assertEqual(error.line, at)
                self.assertEqual(fields(error.error), fields(wanted))
                self.assertEqual(state_of(desk), before)

    def test_a_line_that_fails_keeps_what_can_be_done_again(self):
        desk = begun()
        desk.undo()
        before = state_of(desk)
        self.assertIsNotNone(error_of(desk.told, "drop dom", "take dom"))
        self.assertIsNotNone(error_of(desk, "take x"))
        self.assertEqual(state_of(desk), before)
        self.assertEqual(desk.redo(), FIRST[-1])

    def test_called(self):
        desk = begun()
        self.assertEqual(desk("put a square 1 :"), "3")
        self.assertEqual(desk.story[-1], "put a square 1 :")
        self.assertEqual(desk("names"), "dom pad a")
        before = state_of(desk)
        for line, wanted in (("take pad", errors.NoName("pad")), ("fact 1", errors.NoFact(1)), ("strike 0 0", errors.Twice(0)), ("x", errors.BadText(0, 0)),
                             (None, errors.BadText(0, 0)), (["names"], errors.BadText(0, 0)), ("take", errors.BadText(0, 1)), ("many 1", errors.BadText(0, 1))):
            error = error_of(desk, line)
            self.assertEqual(fields(error), fields(wanted))
            self.assertEqual(state_of(desk), before)

    def test_an_impossible_book(self):
        desk = begun("tell joined 0 1")
        error = error_of(desk.told, "names", "word tips 0 1")
        self.assertEqual((error.line, type(error.error)), (1, errors.Impossible))
        self.assertEqual(error.error.paper.word, "unsewn")

    def test_tried(self):
        desk = begun()
        desk.undo()
        before = state_of(desk)
        self.assertEqual(desk.tried("put a square 1 :", "take a", "many", "names", "sew b 0-1 2-3", "drop dom", "names"), ("2", "4", "2", "dom a", "3", "2", "a b"))
        self.assertEqual(desk.tried(), ())
        self.assertEqual(state_of(desk), before)
        self.assertEqual(desk.redo(), FIRST[-1])


class UndoTest(unittest.TestCase):
    def test_back_and_forth(self):
        desk = Desk()
        tables = [desk.table]
        for line in FIRST:
            desk(line)
            tables.append(desk.table)
        for at in range(len(FIRST) - 1, -1, -1):
            self.assertEqual(desk.undo(), FIRST[at])
            self.assertEqual(desk.story, FIRST[:at])
            self.assertTrue(desk.table == tables[at])
        self.assertIs(type(error_of(desk.undo)), errors.Nothing)
        for at, line in enumerate(FIRST):
            self.assertEqual(desk.redo(), line)
            self.assertEqual(desk.story, FIRST[:at + 1])
            self.assertTrue(desk.table == tables[at + 1])
        self.assertIs(type(error_of(desk.redo)), errors.Nothing)

    def test_asks_and_refused_lines_between(self):
        desk = begun()
        desk.undo()
        desk.undo()
        desk.told("names", "many", "try joined 0 1")
        desk.tried("drop dom")
        for line in ("take x", "x", "drop pad", "names 1"):
            self.assertIsNotNone(error_of(desk, line))
        self.assertIsNotNone(error_of(desk.told, "drop dom", "x"))
        self.assertEqual(desk.redo(), FIRST[2])
        desk("facts")
        self.assertEqual(desk.redo(), FIRST[3])
        self.assertEqual(desk("names"), "dom pad")

    def test_a_new_deed_between(self):
        for deed in ("put a square 1 :", FIRST[3], "take dom"):
            desk = begun()
            desk.undo()
            desk(deed)
            self.assertIs(type(error_of(desk.redo)), errors.Nothing)
            self.assertEqual(desk.undo(), deed)
            self.assertEqual(desk.redo(), deed)
        desk = begun()
        desk.undo()
        desk.told("names", "put a square 1 :", "names")
        self.assertIs(type(error_of(desk.redo)), errors.Nothing)

    def test_one_done_again_is_no_new_deed(self):
        desk = begun()
        for _ in range(3):
            desk.undo()
        desk.redo()
        self.assertEqual([desk.redo(), desk.redo()], list(FIRST[2:]))
        self.assertIs(type(error_of(desk.redo)), errors.Nothing)

    def test_nothing(self):
        desk = Desk()
        for asked in (desk.undo, desk.redo):
            self.assertIs(type(error_of(asked)), errors.Nothing)
        desk("names")
        self.assertIs(type(error_of(desk.undo)), errors.Nothing)
        self.assertEqual((desk.story, desk.table == Table()), ((), True))

    def test_what_was_taken_back_leaves_the_answers(self):
        desk, other = begun("tell joined 1 2", "tell tips 0 9"), begun("tell tips 0 9")
        self.assertEqual(desk("fact 2"), "tips 0 9")
        desk("strike 1")
        for line in ("many", "kinds", "fact 1", "facts", "book", "clash", "names"):
            self.assertEqual(desk(line), other(line))
        desk = begun("tell joined 0 1")
        desk.undo()
        for line in ("many", "kinds", "facts", "book", "word joined 0 1"):
            self.assertEqual(desk(line), begun()(line))


class TwinTest(unittest.TestCase):
    def test_a_twin_is_in_all_as_this_one(self):
        desk = begun()
        desk.undo()
        twin = desk.twin()
        self.assertIsInstance(twin, Desk)
        self.assertTrue(twin == desk)
        self.assertEqual(state_of(twin), state_of(desk))
        self.assertEqual(twin.redo(), FIRST[-1])

    def test_neither_changes_the_other(self):
        desk = begun()
        twin = desk.twin()
        before = state_of(desk)
        twin("drop dom")
        twin.undo()
        twin("put a square 1 :")
        self.assertEqual(state_of(desk), before)
        self.assertFalse(twin == desk)
        before = state_of(twin)
        desk.undo()
        desk.told("take dom", "tell tips 0 9")
        self.assertEqual(state_of(twin), before)


class ValueTest(unittest.TestCase):
    def test_size(self):
        desk = begun()
        self.assertEqual(len(desk), 1)
        desk.told("tell tips 0 9", "tell tips 0 9")
        self.assertEqual(len(desk), 3)
        desk("take dom")
        self.assertEqual(len(desk), 0)

    def test_names(self):
        desk = begun()
        for name in ("dom", "pad"):
            self.assertIs(name in desk, True)
        for value in ODD_VALUES + ("do", "a", "dom ", ("dom",), ["dom"], {"dom": 1}, b"dom", Sheet.single("square"), Desk):
            self.assertIs(value in desk, False)
        desk("drop pad")
        self.assertNotIn("pad", desk)
        desk.undo()
        self.assertIn("pad", desk)

    def test_equality(self):
        one, other = begun(), begun()
        self.assertTrue(one == other)
        # The story is not asked.
        other.told("tell tips 0 9", "strike 1")
        self.assertTrue(one == other)
        self.assertNotEqual(one.story, other.story)
        other("take dom")
        self.assertFalse(one == other)
        for value in ODD_VALUES + (one.table, one.story):
            self.assertFalse(one == value)
            self.assertFalse(value == one)
        self.assertTrue(Desk() == Desk())

    def test_the_story_and_the_table_of_before_stay(self):
        desk = begun()
        table, story = desk.table, desk.story
        desk.told("drop dom", "put a square 1 :")
        self.assertEqual((table.names, story), (("dom", "pad"), FIRST))


class DrawnTest(unittest.TestCase):
    def test_drawn_lines(self):
        draw = random.Random(1)
        counts = {"undo": 0, "redo": 0, "failed": 0, "told": 0}
        for _ in range(250):
            desk, plain, done, undone = Desk(), PlainDesk(), [], []
            for _ in range(40):
                step = draw.random()
                if step < 0.15:
                    error = error_of(desk.undo)
                    self.assertEqual(error is None, bool(done))
                    if done:
                        before, line = done.pop()
                        undone.append((plain, line))
                        plain = before
                        counts["undo"] += 1
                elif step < 0.28:
                    error = error_of(desk.redo)
                    self.assertEqual(error is None, bool(undone))
                    if undone:
                        behind, line = undone.pop()
                        done.append((plain, line))
                        plain = behind
                        counts["redo"] += 1
                else:
                    plain = self.some_lines(desk, plain, done, undone, draw, counts)
                self.assertEqual(desk.story, tuple(line for _, line in done))
                self.assertEqual((desk.table.names, desk.table.hand), (tuple(plain.names), plain.hand))
                self.assertEqual(list(desk.table.facts), plain.facts)
                self.assertTrue(all(desk.table.thing(name) == thing for name, thing in plain.things.items()))
        self.assertGreater(min(counts.values()), 50)

    def some_lines(self, desk, plain, done, undone, draw, counts):
        """Tells the desk up to three lines; returns the plain desk behind them, or the one ahead if one is refused."""
        now, lines, answers, deeds = plain.copy(), [], [], []
        for at in range(draw.randrange(1, 4)):
            line = lines_for(now, draw)
            lines.append(line)
            before = now.copy()
            try:
                answers.append(now.line(line))
            except Refused as refusal:
                counts["failed"] += 1
                for asked in (desk.told, desk.tried):
                    error = error_of(asked, *lines)
                    self.assertEqual((type(error), error.line), (errors.BadLine, at))
                    self.assertEqual((type(error.error).__name__,) + tuple(vars(error.error).values()), refusal.args[0])
                return plain
            if line.split(" ")[0] in DEEDS:
                deeds.append((before, line))
            else:
                self.assertIn(line.split(" ")[0], ASKS)
        counts["told"] += 1
        self.assertEqual(desk.tried(*lines), tuple(answers))
        self.assertEqual(desk.told(*lines) if len(lines) > 1 else (desk(lines[0]),), tuple(answers))
        done.extend(deeds)
        if deeds:
            undone.clear()
        return now


if __name__ == "__main__":
    unittest.main()
