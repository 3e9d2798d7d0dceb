"""Stories of desks: played back, parting, merged."""

import random
import unittest

from plain import ODD_VALUES, fields, raised
from plain_desk import DEEDS, PlainDesk, Refused, lines_for
from rimsewn import errors
from rimsewn.desk import Desk
from rimsewn.desk_lines import ASKS
from rimsewn.stories import merged, parting, replay
from rimsewn.tables import Table
from test_desk import FIRST, begun, error_of, state_of


def drawn_story(draw, first=(), many=12):
    """A desk that is told these deed lines, then drawn ones, those that are not refused."""
    plain, desk = PlainDesk(), Desk()
    for line in first:
        plain.line(line)
        desk(line)
    for _ in range(many):
        line = lines_for(plain, draw)
        if line.split(" ")[0] in DEEDS:
            now = plain.copy()
            try:
                now.line(line)
            except Refused:
                continue
            plain = now
            desk(line)
    return desk


class ReplayTest(unittest.TestCase):
    def test_played_back(self):
        draw = random.Random(1)
        for _ in range(20):
            desk = drawn_story(draw)
            again = replay(desk.story)
            self.assertIsInstance(again, Desk)
            self.assertTrue(again == desk)
            self.assertEqual(state_of(again), state_of(desk))
            self.assertTrue(replay(list(desk.story)) == desk)
        self.assertTrue(replay([]) == Desk())
        self.assertTrue(replay(()) == Desk())

    def test_what_was_taken_back_is_not_played(self):
        desk = begun()
        desk.undo()
        again = replay(desk.story)
        self.assertEqual(again.story, FIRST[:3])
        self.assertIs(type(error_of(again.redo)), errors.Nothing)

    def test_a_line_that_fails(self):
        for lines, at, wanted in ((FIRST + ("take pad",), 4, errors.NoName("pad")), (FIRST[1:], 0, errors.NoName("dom")), (FIRST + ("drop dom", "tell tips 0 9"), 5, errors.Nothing()),
                                  (("put a square 1 :", "put a square 1 :"), 1, errors.Twice("a")), (("put a square",), 0, errors.BadText(0, 3)),
                                  (FIRST + ("",), 4, errors.BadText(0, 0)), (FIRST + ("strike 1",), 4, errors.NoFact(1))):
            error = error_of(replay, lines)
            self.assertEqual((type(error), error.line), (errors.BadLine, at))
            self.assertEqual(fields(error.error), fields(wanted))

    def test_an_ask_line(self):
        for word in ASKS:
            for line in (word, word + " a", word + " 0 1 2 3", word + " "):
                error = error_of(replay, FIRST + (line,))
                self.assertEqual((type(error), error.line), (errors.BadLine, 4))
                self.assertEqual(fields(error.error), fields(errors.BadText(0, 0)))

    def test_no_lines(self):
        for value in [value for value in ODD_VALUES if value not in ([], ())] + ["take a", {"take a"}, {"take a": 1}, ["put a square 1 :", None],
                                                                             ["put a square 1 :", 0], [["put a square 1 :"]], [b"drop a"], Desk(), begun()]:
            self.assertEqual(raised(replay, value), ("BadDesk", "lines"), value)


class PartingTest(unittest.TestCase):
    def test_how_many_lines_are_alike(self):
        for more, others, many in ((), (), 4), (("take dom",), (), 4), (("take dom",), ("take dom",), 5), (("take dom", "drop dom"), ("take dom", "drop pad"), 5), \
                (("drop dom",), ("take dom", "drop dom"), 4):
            one, other = begun(*more), begun(*others)
            self.assertEqual(parting(one, other), many)
            self.assertEqual(parting(other, one), many)
        self.assertEqual(parting(Desk(), begun()), 0)
        self.assertEqual(parting(begun(), Desk()), 0)
        self.assertEqual(parting(Desk(), Desk()), 0)
        one, other = Desk(), Desk()
        one.told("put a square 1 :", "put b square 1 :")
        other.told("put b square 1 :", "put a square 1 :")
        self.assertEqual(parting(one, other), 0)

    def test_no_desks(self):
        desk = begun()
        for value in ODD_VALUES + (desk.story, desk.table, Desk):
            for asked in (parting, merged):
                self.assertEqual(raised(asked, value, None), ("BadDesk", "one"))
                self.assertEqual(raised(asked, desk, value), ("BadDesk", "other"))


class MergedTest(unittest.TestCase):
    def plain_merged(self, one, other):
        """The table, the story and the refused indexes, line by line."""
        plain, story, refused = PlainDesk(), [], []
        same = 0
        while same < min(len(one), len(other)) and one[same] == other[same]:
            same += 1
        for line in one:
            plain.line(line)
            story.append(line)
        for at in range(same, len(other)):
            now = plain.copy()
            try:
                now.line(other[at])
            except Refused:
                refused.append(at)
                continue
            plain = now
            story.append(other[at])
        return plain, tuple(story), tuple(refused)

    def test_drawn_stories(self):
        draw = random.Random(2)
        seen = {True: 0, False: 0}
        for _ in range(80):
            first = drawn_story(draw, many=8).story
            one, other = drawn_story(draw, first, 50), drawn_story(draw, first, 50)
            before = state_of(one), state_of(other)
            told = merged(one, other)
            self.assertIsInstance(told, tuple)
            desk, refused = told
            plain, story, right = self.plain_merged(one.story, other.story)
            self.assertIsInstance(desk, Desk)
            self.assertEqual((desk.story, refused), (story, right))
            self.assertTrue(desk.table == Table([(name, plain.things[name]) for name in plain.names], plain.hand, plain.facts))
            self.assertEqual((state_of(one), state_of(other)), before)
            self.assertIs(type(error_of(desk.redo)), errors.Nothing)
            seen[bool(refused)] += 1
        self.assertGreater(min(seen.values()), 10, seen)

    def test_lines_that_are_refused(self):
        one, other = begun("put a square 1 :", "drop pad"), begun("put a square 2 : 1 7", "put b square 1 :", "take a", "tell joined 0 5", "drop pad", "drop b")
        desk, refused = merged(one, other)
        # There is an a and no pad any more; the a that is taken is that of one, of four edges.
        self.assertEqual(refused, (4, 7, 8))
        self.assertEqual(desk.story, one.story + ("put b square 1 :", "take a", "drop b"))
        self.assertEqual((desk("names"), desk("hand"), desk("facts")), ("dom a", "a", "0"))

    def test_with_itself(self):
        desk = begun()
        told, refused = merged(desk, desk)
        self.assertTrue(told == desk)
        self.assertEqual((told.story, refused), (desk.story, ()))
        told("drop dom")
        self.assertIn("dom", desk)

    def test_what_was_taken_back(self):
        one, other = begun(), begun()
        other.undo()
        desk, refused = merged(one, other)
        self.assertEqual((desk.story, refused), (FIRST, ()))
        desk, refused = merged(other, one)
        self.assertEqual((desk.story, refused), (FIRST, ()))

    def test_empty_desks(self):
        desk, refused = merged(Desk(), begun())
        self.assertTrue(desk == begun())
        self.assertEqual(refused, ())
        desk, refused = merged(begun(), Desk())
        self.assertEqual((desk.story, refused), (FIRST, ()))


if __name__ == "__main__":
    unittest.main()
