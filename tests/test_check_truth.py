"""Whether a value shows that bodies are alike in truth: right papers, and bent ones."""

import random
import unittest

from drawn import drawn_body, shuffled
from plain import ODD_VALUES, raised
from plain_layings import plain_failings, plain_starts, plain_tip_walks, sum_of
from plain_walks import plain_walk
from rimsewn.bodies import Body
from rimsewn.boxes import box
from rimsewn.check_truth import shows_truth
from rimsewn.finer import finer
from rimsewn.listed import bodies_of
from rimsewn.overlays import Apart, Overlay
from rimsewn.papers import Denial, Paper
from rimsewn.skins import Skin
from rimsewn.slants import slanted
from rimsewn.truth import in_truth

CAP = Body(Skin("square", 1, [(0, 1), (2, 3)]))
LEFT, RIGHT = slanted(CAP, 2, 1), slanted(CAP, 1, 2)
WEDGE = Body(Skin("square", 2, [(0, 3), (1, 7), (2, 6), (4, 5)]))
TUBE = Body(Skin("square", 2, [(0, 3), (1, 7), (2, 4), (5, 6)]))
WORDS = ("end", "tip", "centre", "point", "gathers", "faces", "kept", "other", "")


class Overlay2(Overlay):
    """A class below that of the right papers."""


class Apart2(Apart):
    """A class below that of the right papers."""


def pairs():
    """Bodies of as many faces, alike or not."""
    draw = random.Random(1)
    for kind, faces in (("square", 2), ("square", 3), ("triangle", 4), ("triangle", 6)):
        bodies = bodies_of(kind, faces)
        yield bodies[0], bodies[1]
        yield bodies[-1], shuffled(bodies[-1], draw)
        yield bodies[1], bodies[-1].mirrored()
    yield LEFT, RIGHT
    yield LEFT, drawn_body("square", 5, 1)
    for kind in ("square", "triangle"):
        yield drawn_body(kind, 8, 1), drawn_body(kind, 8, 2)
        yield drawn_body(kind, 24, 1), drawn_body(kind, 24, 2)
        yield drawn_body(kind, 24, 3), shuffled(drawn_body(kind, 24, 3), draw)


class OverlayTest(unittest.TestCase):
    def test_what_in_truth_returns(self):
        words = {"overlay": 0, "apart": 0}
        for one, other in pairs():
            for mirrored in (False, True):
                paper = in_truth(one, other, mirrored)
                words[paper.word] += 1
                self.assertIs(shows_truth(one, other, mirrored, paper), True)
        self.assertGreater(min(words.values()), 5)

    def test_all_starts_of_several_walks(self):
        counts = {True: 0, False: 0}
        draw = random.Random(2)
        for one, other in list(pairs())[:14]:
            for walk in draw.sample(plain_tip_walks(one, 18), 2):
                for mirrored in (False, True):
                    for start in plain_starts(one, other, walk)[:8]:
                        right = not plain_failings(one, other, mirrored, walk, start)
                        told = shows_truth(one, other, mirrored, Overlay(walk[0], list(walk[1]), start[0], start[1]))
                        self.assertIs(told, right)
                        counts[told] += 1
        self.assertGreater(counts[True], 5)
        self.assertGreater(counts[False], 50)

    def test_bent_overlays(self):
        for mirrored in (False, True):
            self.assertIs(shows_truth(LEFT, RIGHT, mirrored, Overlay(4, (2, 1), 15, (1, 2))), True)
            self.assertIs(shows_truth(RIGHT, LEFT, mirrored, Overlay(4, (2, 1), 15, (1, 2))), False)
        for parts in ((4, (2, 1), 14, (1, 2)), (4, (2, 1), 15, (2, 1)), (3, (2, 1), 15, (1, 2)), (4, (1, 2), 15, (1, 2)), (4, (2, 1), 15, (1, 3)),
                      (4, (1, 0), 15, (1, 0)), (4, (2, 0), 15, (2, 0)), (4, (2, 1), 15, (-1, 2)), (4, (2, 1), 35, (1, 2)), (20, (2, 1), 15, (1, 2)),
                      (4, (2, 1), True, (1, 2)), (4, (2, True), 15, (1, 2)), (4, (2, 1), 15, (1.0, 2)), (4, (2, 1), 15, [[1, 2]]),
                      (4, (21, 0), 15, (21, 0)), (4, (12, 17), 15, (17, 12)), (4, (10 ** 30, 1), 15, (1, 10 ** 30))):
            self.assertIs(shows_truth(LEFT, RIGHT, False, Overlay(*parts)), False, parts)
        for value in ODD_VALUES:
            for at in range(4):
                parts = [4, (2, 1), 15, (1, 2)]
                parts[at] = value
                self.assertIs(shows_truth(LEFT, RIGHT, False, Overlay(*parts)), False)
        right = (4, (2, 1), 15, (1, 2))
        for value in ODD_VALUES + (right, Overlay2(*right), Paper("overlay", *right), Denial("overlay", *right), Overlay):
            self.assertIs(shows_truth(LEFT, RIGHT, False, value), False)

    def test_unlike_numbers_of_faces(self):
        fine = Body(finer(CAP.skin))
        for overlay in (Overlay(0, (1, 0), 0, (1, 0)), Overlay(1, (1, 0), 4, (1, 0))):
            self.assertIs(shows_truth(CAP, fine, False, overlay), False)
            self.assertIs(shows_truth(fine, CAP, False, overlay), False)


class ApartTest(unittest.TestCase):
    def test_each_failing_of_each_start(self):
        counts = {True: 0, False: 0}
        draw = random.Random(3)
        for one, other in [pair for pair in pairs() if pair[0].faces <= 8]:
            for mirrored in (False, True):
                paper = in_truth(one, other, mirrored)
                if paper:
                    continue
                walk = (paper.corner, paper.vector)
                starts = plain_starts(one, other, walk)
                for at in draw.sample(range(len(starts)), min(3, len(starts))):
                    right = plain_failings(one, other, mirrored, walk, starts[at])
                    numbers = range(-1, one.skin.sides + 2)
                    for failing in [(word, number) for word in WORDS for number in numbers]:
                        failings = paper.failings[:at] + (failing,) + paper.failings[at + 1:]
                        told = shows_truth(one, other, mirrored, Apart(walk[0], walk[1], failings))
                        self.assertIs(told, failing in right)
                        counts[told] += 1
        self.assertGreater(min(counts.values()), 300)

    def test_of_bodies_that_are_alike(self):
        for one, other in ((LEFT, RIGHT), (CAP, CAP), (box(1, 1, 1), box(1, 1, 1))):
            for walk in plain_tip_walks(one, 6):
                starts = plain_starts(one, other, walk)
                failings = []
                for start in starts:
                    right = sorted(plain_failings(one, other, False, walk, start))
                    failings.append(right[0] if right else ("centre", 0))
                self.assertIs(shows_truth(one, other, False, Apart(walk[0], walk[1], failings)), False)
                self.assertIs(shows_truth(one, other, False, Apart(walk[0], walk[1], ())), False)

    def test_failings_left_out_and_put_in(self):
        drawn = [(drawn_body("triangle", 8, seed), drawn_body("triangle", 8, seed + 1)) for seed in range(20)]
        for one, other in [(WEDGE, TUBE)] + [pair for pair in drawn if not in_truth(*pair) and in_truth(*pair).failings][:2]:
            paper = in_truth(one, other)
            corner, vector, failings = paper.parts
            self.assertIs(shows_truth(one, other, False, Apart(corner, list(vector), [list(row) for row in failings])), True)
            for bent in (failings[1:], failings + failings[:1], (("end", 0),) + failings, (), None, (("faces", 0),), failings[:-1], 0, "", {},
                         failings[:-1] + (None,), failings[:-1] + (("end",),), failings[:-1] + (("end", 0, 0),), (failings,),
                         failings[:-1] + (("end", False),), failings[:-1] + (([], 0),), failings[:-1] + (("centre", {}),)):
                if bent != failings:
                    self.assertIs(shows_truth(one, other, False, Apart(corner, vector, bent)), False, bent)
            for value in ODD_VALUES:
                self.assertIs(shows_truth(one, other, False, Apart(value, vector, failings)), False)
                self.assertIs(shows_truth(one, other, False, Apart(corner, value, failings)), False)
                self.assertIs(shows_truth(one, other, False, Apart(corner, vector, value)), False)
            for value in (paper.parts, Apart2(*paper.parts), Paper("apart", *paper.parts), Denial("apart", *paper.parts), Apart):
                self.assertIs(shows_truth(one, other, False, value), False)

    def test_failings_of_another_start(self):
        # A failing that is right of one start alone is not right of another one.
        moved = 0
        for seed in range(12):
            one, other = drawn_body("square", 6, seed), drawn_body("square", 6, seed + 50)
            paper = in_truth(one, other)
            if paper or len(paper.failings) < 2:
                continue
            walk = (paper.corner, paper.vector)
            starts = plain_starts(one, other, walk)
            right = [plain_failings(one, other, False, walk, start) for start in starts]
            bent = paper.failings[1:] + paper.failings[:1]
            told = all(failing in row for failing, row in zip(bent, right))
            self.assertIs(shows_truth(one, other, False, Apart(walk[0], walk[1], bent)), told)
            moved += not told
        self.assertGreater(moved, 2)

    def test_other_walks(self):
        self.assertIs(shows_truth(WEDGE, TUBE, False, Apart(0, (2, 0), (("end", 0), ("end", 0)))), True)
        self.assertIs(shows_truth(WEDGE, TUBE, False, Apart(0, [2, 0], [["end", 0], ["end", 0]])), True)
        counts = {True: 0, False: 0}
        for corner in range(8):
            for a in range(1, 4):
                for b in range(4):
                    told = plain_walk(WEDGE, corner, a, b)
                    comes = WEDGE.place_of(corner) in WEDGE.tips and told[0] == "came" and told[1] in WEDGE.tips
                    failings = [sorted(plain_failings(WEDGE, TUBE, False, (corner, (a, b)), start) or {("end", 0)})[0]
                                for start in plain_starts(WEDGE, TUBE, (corner, (a, b)))] if comes else []
                    for row in (failings, [("end", 0)] * len(failings)):
                        paper = Apart(corner, (a, b), row)
                        if not comes:
                            self.assertIs(shows_truth(WEDGE, TUBE, False, paper), False)
                    self.assertIs(shows_truth(WEDGE, TUBE, False, Apart(corner, (a, b), failings)), comes)
                    counts[comes] += 1
        self.assertGreater(min(counts.values()), 10)

    def test_squares_above_400(self):
        for vector in ((21, 0), (20, 1), (15, 14)):
            self.assertGreater(sum_of("square", vector), 400)
            self.assertIs(shows_truth(CAP, LEFT, False, Apart(1, vector, [("faces", 0)])), False)
        for vector in ((1, 0), (1, 1), (3, 2)):
            told = plain_walk(CAP, 1, *vector)
            self.assertEqual(told[0], "came")
            self.assertIs(shows_truth(CAP, LEFT, False, Apart(1, vector, [("faces", 0)])), True)

    def test_a_square_of_400(self):
        # On the cap, cut in sixteen, the walk by four times (3, 4) goes as that by (3, 4) on the cap.
        fine = Body(finer(finer(CAP.skin)))
        walks = [walk for walk in ((corner, (12, 16)) for corner in range(fine.skin.sides))
                 if fine.place_of(walk[0]) in fine.tips and plain_walk(fine, *walk[:1], *walk[1])[0] == "came"]
        self.assertTrue(walks)
        for corner, vector in walks:
            self.assertIs(shows_truth(fine, fine, False, Overlay(corner, vector, corner, vector)), True)
            self.assertIs(shows_truth(fine, CAP, False, Apart(corner, vector, [("faces", 0)])), True)
            self.assertIs(shows_truth(fine, fine, False, Apart(corner, vector, [])), False)

    def test_unlike_numbers_of_faces(self):
        for one, other in ((CAP, LEFT), (LEFT, CAP)):
            walk = plain_tip_walks(one, 9)[-1]
            for mirrored in (False, True):
                self.assertIs(shows_truth(one, other, mirrored, Apart(walk[0], walk[1], [["faces", 0]])), True)
                for failings in ((), (("faces", 1),), (("faces", False),), (("faces", 0), ("faces", 0)), (("end", 0),), ("faces", 0), None,
                                 (("centre", 0),), (("faces",),)):
                    self.assertIs(shows_truth(one, other, mirrored, Apart(walk[0], walk[1], failings)), False)
                self.assertIs(shows_truth(one, other, mirrored, Apart(one.skin.sides, walk[1], [("faces", 0)])), False)
                self.assertIs(shows_truth(one, other, mirrored, Apart(walk[0], (0, 1), [("faces", 0)])), False)

    def test_what_is_refused_in_order(self):
        three = bodies_of("triangle", 2)[0]
        for value in ODD_VALUES + (CAP.skin, str(CAP)):
            self.assertEqual(raised(shows_truth, value, None, False, None), ("BadBody", "one"))
            self.assertEqual(raised(shows_truth, three, value, False, None), ("BadBody", "other"))
        self.assertEqual(raised(shows_truth, three, CAP, True, None), ("Misfit", "kind"))


if __name__ == "__main__":
    unittest.main()
