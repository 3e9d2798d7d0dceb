"""Overlays, and which bodies are alike in truth, against faces laid out in the plane."""

import random
import time
import unittest

from drawn import drawn_body, shuffled
from plain import ODD_VALUES, raised
from plain_layings import PlainLaying, frame, plain_failings, plain_starts, plain_straight, plain_tip_walks, second_step, sum_of
from plain_walks import plain_walk
from rimsewn.bodies import Body
from rimsewn.boxes import box
from rimsewn.codes import alike_by_faces
from rimsewn.failings import candidates, end_fails, is_failing, laying_fails
from rimsewn.finer import finer
from rimsewn.layings import Laying
from rimsewn.listed import bodies_of
from rimsewn.overlays import Apart, Overlay, laid_on, places_on
from rimsewn.papers import Paper
from rimsewn.roads import squares
from rimsewn.skins import Skin
from rimsewn.slants import slanted
from rimsewn.starts import starts_of
from rimsewn.truth import in_truth

CAP = Body(Skin("square", 1, [(0, 1), (2, 3)]))
LEFT, RIGHT = slanted(CAP, 2, 1), slanted(CAP, 1, 2)
OVER = Overlay(4, (2, 1), 15, (1, 2))


class Overlay2(Overlay):
    """A class below that of the right papers."""


def listed(*kinds):
    return [body for kind, faces in kinds for body in bodies_of(kind, faces)]


def slants():
    """Pairs of bodies that are alike in truth, but not by faces."""
    for body in listed(("square", 1), ("square", 2), ("square", 3), ("square", 4), ("triangle", 2)):
        yield slanted(body, 2, 1), slanted(body, 1, 2)
    for a, b in ((3, 2), (4, 1), (4, 2)):
        yield slanted(CAP, a, b), slanted(CAP, b, a)


def groups():
    """Bodies of one kind and one number of faces, to be laid on one another."""
    for kind, faces in (("square", 1), ("square", 2), ("square", 3), ("triangle", 2), ("triangle", 4), ("triangle", 6)):
        yield list(bodies_of(kind, faces)) + [body.mirrored() for body in bodies_of(kind, faces)]
    yield [LEFT, RIGHT] + [drawn_body("square", 5, seed) for seed in range(3)]
    for kind in ("square", "triangle"):
        yield [drawn_body(kind, 8, seed) for seed in range(3)]


class FailingsTest(unittest.TestCase):
    def test_against_faces_laid_out(self):
        draw = random.Random(1)
        seen = {"end": 0, "centre": 0, "point": 0, "gathers": 0, "none": 0}
        for bodies in groups():
            for one in bodies[:4]:
                walks = plain_tip_walks(one, 26)
                for walk in walks[:2] + draw.sample(walks, min(2, len(walks))):
                    other, flips = draw.choice(bodies), draw.random() < 0.5
                    starts = plain_starts(one, other, walk)
                    self.assertEqual(starts_of(one, other, walk), starts)
                    for start in draw.sample(starts, min(5, len(starts))):
                        right = plain_failings(one, other, flips, walk, start)
                        told = {failing for failing in candidates(one) + [("end", 0)]
                                if is_failing(one, other, flips, walk, start, failing)}
                        self.assertEqual(told, right)
                        for word in {failing[0] for failing in right} or {"none"}:
                            seen[word] += 1
        self.assertGreater(min(seen.values()), 5, seen)

    def test_where_faces_come(self):
        draw = random.Random(2)
        for bodies in groups():
            for one in bodies[:3]:
                walks = plain_tip_walks(one, 26)
                for walk in walks[:1] + draw.sample(walks, min(2, len(walks))):
                    other, flips = draw.choice(bodies), draw.random() < 0.5
                    for start in plain_starts(one, other, walk)[:3]:
                        laying = Laying(one, other, flips, walk, start)
                        plain = PlainLaying(one, other, flips, walk, start)
                        m = (2 if one.kind == "square" else 3) * sum_of(one.kind, walk[1])
                        self.assertEqual(laying.m, m)
                        second = second_step(one)
                        for face, ((its, x, y), (a, b)) in enumerate(laying.laid):
                            told = plain.laid[face]
                            self.assertEqual(its, told[0])
                            self.assertLess(abs((x + y * second) / m - told[1]), 1e-6)
                            self.assertLess(abs((a + b * second) / m - told[2]), 1e-6)
                            # Each middle comes strictly within a face, and a step stays one long.
                            self.assertTrue(0 < x < m and 0 < y < m and (one.kind == "square" or x + y < m))
                            self.assertEqual(sum_of(one.kind, (a, b)), m * m)

    def test_no_step_meets_a_tip(self):
        draw = random.Random(3)
        for bodies in groups():
            one, other = bodies[0], draw.choice(bodies)
            for walk in draw.sample(plain_tip_walks(one, 60), 3):
                for start in starts_of(one, other, walk)[:6]:
                    laying = Laying(one, other, False, walk, start)
                    self.assertFalse(any(laying_fails(laying, "tip", side) for side in range(one.skin.sides)))

    def test_what_is_no_failing(self):
        walk, start = (0, (2, 0)), (0, (2, 0))
        wedge = Body(Skin("square", 2, [(0, 3), (1, 7), (2, 6), (4, 5)]))
        tube = Body(Skin("square", 2, [(0, 3), (1, 7), (2, 4), (5, 6)]))
        self.assertTrue(end_fails(wedge, tube, walk, start))
        self.assertTrue(is_failing(wedge, tube, False, walk, start, ("end", 0)))
        self.assertTrue(is_failing(wedge, tube, False, walk, start, ["end", 0]))
        for value in ODD_VALUES + (("end", 1), ("end", False), ("end", 0.0), ("end",), ("end", 0, 0), ("End", 0), ("faces", 0), ("kept", 0),
                                   ("tip", 0), (0, "end"), ("centre", -1), ("centre", 8), ("point", 2), ("gathers", None),
                                   ("centre", True), ("word", 0), (["end"], 0), ({}, 0), "ab"):
            self.assertFalse(is_failing(wedge, tube, False, walk, start, value), value)


class TruthTest(unittest.TestCase):
    def test_renamed_and_mirrored_bodies(self):
        draw = random.Random(4)
        for kind in ("square", "triangle"):
            for faces in (2, 6, 10, 24):
                for seed in range(3):
                    body = drawn_body(kind, faces, seed)
                    other = shuffled(body, draw)
                    for its, mirrored in ((other, False), (other.mirrored(), True)):
                        paper = in_truth(body, its, mirrored)
                        self.assertIsInstance(paper, Overlay)
                        self.assertEqual(in_truth(body, its, mirrored).parts, paper.parts)
                    self.assertEqual(bool(in_truth(body, other, True)), bool(alike_by_faces(body, other, True)))
                    self.assertEqual(bool(in_truth(body, other, True)), bool(in_truth(body, other.mirrored())))

    def test_bodies_aslant(self):
        many = 0
        for left, right in slants():
            many += 1
            self.assertTrue(in_truth(left, right))
            self.assertTrue(in_truth(right, left))
            self.assertTrue(in_truth(left, right.mirrored(), True))
            self.assertFalse(alike_by_faces(left, right))
            self.assertEqual(bool(in_truth(left, right, True)), bool(in_truth(left, right.mirrored())))
        self.assertEqual(many, 20)

    def test_few_faces(self):
        # Bodies of so few faces are alike in truth only if they are alike by faces.
        counts = {True: 0, False: 0}
        for kind, faces in (("square", 1), ("square", 2), ("square", 3), ("square", 4), ("triangle", 2), ("triangle", 4), ("triangle", 6)):
            bodies = list(bodies_of(kind, faces)) + [body.mirrored() for body in bodies_of(kind, faces)]
            for one in bodies:
                for other in bodies:
                    for mirrored in (False, True):
                        right = bool(alike_by_faces(one, other, mirrored))
                        self.assertIs(bool(in_truth(one, other, mirrored)), right)
                        counts[right] += 1
        self.assertGreater(min(counts.values()), 100)

    def test_five_squares(self):
        # Of five squares only the cap aslant is alike in truth with a body that is not alike by faces.
        bodies = [LEFT, RIGHT] + [drawn_body("square", 5, seed) for seed in range(14)]
        aslant = [bool(alike_by_faces(body, LEFT)) or bool(alike_by_faces(body, RIGHT)) for body in bodies]
        for one, slant in zip(bodies, aslant):
            for other, its in zip(bodies, aslant):
                self.assertIs(bool(in_truth(one, other)), bool(alike_by_faces(one, other)) or (slant and its))

    def test_finer_bodies(self):
        for kind, faces in (("square", 2), ("square", 4), ("triangle", 4), ("triangle", 6)):
            bodies = bodies_of(kind, faces)
            fine = [Body(finer(body.skin)) for body in bodies]
            for one in range(len(bodies)):
                for other in range(len(bodies)):
                    for mirrored in (False, True):
                        self.assertIs(bool(in_truth(fine[one], fine[other], mirrored)), bool(in_truth(bodies[one], bodies[other], mirrored)))
        fine = [Body(finer(slanted(CAP, *vector).skin)) for vector in ((2, 1), (1, 2))]
        self.assertTrue(in_truth(fine[0], fine[1]))
        self.assertFalse(alike_by_faces(fine[0], fine[1]))

    def test_failings_of_each_start(self):
        seen = 0
        for bodies in groups():
            for one in bodies[:4]:
                for other in bodies:
                    for mirrored in (False, True):
                        paper = in_truth(one, other, mirrored)
                        if paper:
                            continue
                        seen += 1
                        self.assertIsInstance(paper, Apart)
                        walk = (paper.corner, paper.vector)
                        self.assertIn(walk, plain_tip_walks(one, 26))
                        starts = plain_starts(one, other, walk)
                        self.assertEqual(len(paper.failings), len(starts))
                        for start, failing in list(zip(starts, paper.failings))[:4]:
                            self.assertIn(failing, plain_failings(one, other, mirrored, walk, start))
        self.assertGreater(seen, 40)

    def test_unlike_numbers_of_faces(self):
        for one, other in ((CAP, LEFT), (LEFT, CAP), (drawn_body("triangle", 4, 1), drawn_body("triangle", 24, 1))):
            for mirrored in (False, True):
                paper = in_truth(one, other, mirrored)
                self.assertIsInstance(paper, Apart)
                self.assertEqual(paper.failings, (("faces", 0),))
                self.assertIn((paper.corner, paper.vector), plain_tip_walks(one, 26))

    def test_no_starts(self):
        cube, pillow = box(1, 1, 1), [body for body in (drawn_body("square", 6, seed) for seed in range(60)) if body.tally[2] == 0][0]
        paper = in_truth(cube, pillow)
        self.assertEqual(paper.failings, ())

    def test_bodies_of_24_faces(self):
        begin = time.perf_counter()
        cubes = [box(2, 2, 2), box(2, 2, 2).renamed([23 - face for face in range(24)], [face % 4 for face in range(24)])]
        self.assertTrue(in_truth(*cubes))
        self.assertTrue(in_truth(*cubes, True))
        for kind in ("square", "triangle"):
            for seed in range(6):
                one, other = drawn_body(kind, 24, seed), drawn_body(kind, 24, seed + 1)
                self.assertFalse(in_truth(one, other))
                self.assertFalse(in_truth(one, other, True))
        self.assertLess(time.perf_counter() - begin, 30)

    def test_what_is_refused_in_order(self):
        three = bodies_of("triangle", 2)[0]
        for value in ODD_VALUES + (CAP.skin, str(CAP)):
            self.assertEqual(raised(in_truth, value, None), ("BadBody", "one"))
            self.assertEqual(raised(in_truth, three, value, True), ("BadBody", "other"))
        self.assertEqual(raised(in_truth, three, CAP), ("Misfit", "kind"))


class OverlaysTest(unittest.TestCase):
    def test_squares_of_roads_are_kept(self):
        pairs = list(slants()) + [(drawn_body(kind, 10, seed), shuffled(drawn_body(kind, 10, seed), random.Random(seed)))
                                  for kind in ("square", "triangle") for seed in range(4)]
        for one, other in pairs:
            overlay = in_truth(one, other)
            goal = places_on(one, other, overlay)
            self.assertIsInstance(goal, tuple)
            self.assertEqual(len(goal), len(one.places))
            own, its = squares(one), squares(other)
            kept = [place for place in range(len(goal)) if goal[place] is not None]
            for a in kept:
                self.assertEqual(other.gathers[goal[a]], one.gathers[a])
                self.assertEqual([its[goal[a]][goal[b]] for b in kept], [own[a][b] for b in kept])
            self.assertEqual(sorted(goal[tip] for tip in one.tips), list(other.tips))
            self.assertEqual(len({goal[place] for place in kept}), len(kept))

    def test_where_faces_and_places_come(self):
        for one, other in slants():
            overlay = in_truth(one, other)
            walk, start = (overlay.corner, overlay.vector), (overlay.other, overlay.its)
            plain = PlainLaying(one, other, False, walk, start)
            second, m = second_step(one), (2 if one.kind == "square" else 3) * sum_of(one.kind, walk[1])
            told, goal = laid_on(one, other, overlay), places_on(one, other, overlay)
            self.assertIsInstance(told, tuple)
            for face, (its, x, y, vector) in enumerate(told):
                self.assertEqual(its, plain.laid[face][0])
                self.assertLess(abs((x + y * second) / m - plain.laid[face][1]), 1e-6)
                self.assertLess(abs((vector[0] + vector[1] * second) / m - plain.laid[face][2]), 1e-6)
                own = frame(one, face)
                for corner, point in own.at.items():
                    ray = point - sum(own.at.values()) / one.turn
                    spot = plain.laid[face][1]
                    arrived = plain_straight(other, frame(other, its), spot, spot + plain.goal(face, ray))
                    self.assertEqual(arrived[2], goal[one.place_of(corner)])
            self.assertIn(None, goal)
            # The walk comes upon its start.
            self.assertEqual(goal[one.place_of(overlay.corner)], other.place_of(overlay.other))
            self.assertEqual(goal[plain_walk(one, *walk[:1], *walk[1])[1]], plain_walk(other, start[0], *start[1])[1])

    def test_turnings_and_mirrors(self):
        for body in (box(1, 1, 2), drawn_body("square", 7, 1), drawn_body("triangle", 8, 2)):
            for tip in body.tips:
                corner = body.places[tip][0]
                there = plain_walk(body, corner, 1, 0)
                if there[1] not in body.tips:
                    continue
                stays = Overlay(corner, (1, 0), corner, (1, 0))
                self.assertEqual(places_on(body, body, stays), tuple(range(len(body.places))))
                half = (1, 1) if body.turn == 4 else (1, 1)
                self.assertEqual({(row[0], row[1:3], row[3]) for row in laid_on(body, body, stays)},
                                 {(face, half, (body.turn == 4 and 2 or 3, 0)) for face in range(body.faces)})

    def test_overlays_that_are_not_right(self):
        wrong = [(4, (2, 1), 15, (2, 1)), (4, (2, 1), 16, (1, 2)), (5, (2, 1), 15, (1, 2)), (4, (1, 2), 15, (1, 2)), (4, (2, 1), 15, (1, 3)),
                 (4, (2, 1), 20, (1, 2)), (-1, (2, 1), 15, (1, 2)), (4.0, (2, 1), 15, (1, 2)), (4, (2, 1), "15", (1, 2)), (4, (2,), 15, (1, 2)),
                 (4, None, 15, (1, 2)), (None, (2, 1), 15, (1, 2)), (4, (2, 1), 15, None), (4, (2, 1), 15, (1, 2, 3)), (4, (2, True), 15, (1, 2)),
                 (4, (2, 1), 15, (True, 2)), (4, (2, 1), 15, (0, 1)), (4, (20, 1), 15, (1, 20)), (4, (0, 1), 15, (0, 1)), (4, (2, -1), 15, (1, 2)),
                 ([4], (2, 1), 15, (1, 2)), (4, (2, 1), None, (1, 2)), (4, "21", 15, (1, 2)), (4, {}, 15, {})]
        for ask in (laid_on, places_on):
            self.assertIsNone(raised(ask, LEFT, RIGHT, OVER))
            self.assertIsNone(raised(ask, LEFT, RIGHT, Overlay(4, [2, 1], 15, [1, 2]), True))
            for parts in wrong:
                self.assertEqual(raised(ask, LEFT, RIGHT, Overlay(*parts)), ("BadPaper", "overlay"), parts)
            # Of unlike numbers of faces none is right.
            self.assertEqual(raised(ask, CAP, LEFT, Overlay(1, (1, 0), 4, (1, 0))), ("BadPaper", "overlay"))
            # A walk that does not begin, or does not end, at a tip.
            fine = Body(finer(CAP.skin))
            for corner in range(16):
                begin, end = fine.place_of(corner), plain_walk(fine, corner, 1, 0)[1]
                if begin not in fine.tips or end not in fine.tips:
                    self.assertEqual(raised(ask, fine, fine, Overlay(corner, (1, 0), corner, (1, 0))), ("BadPaper", "overlay"))

    def test_what_is_refused_in_order(self):
        three = bodies_of("triangle", 2)[0]
        for ask in (laid_on, places_on):
            for value in ODD_VALUES + (CAP.skin, str(CAP)):
                self.assertEqual(raised(ask, value, None, None), ("BadBody", "one"))
                self.assertEqual(raised(ask, three, value, None), ("BadBody", "other"))
            for value in ODD_VALUES + (OVER.parts, Overlay2(*OVER.parts), Paper("overlay", *OVER.parts), Apart(4, (2, 1), ()), Overlay):
                self.assertEqual(raised(ask, three, LEFT, value), ("BadPaper", "overlay"))
                self.assertEqual(raised(ask, LEFT, RIGHT, value, True), ("BadPaper", "overlay"))
            self.assertEqual(raised(ask, three, LEFT, OVER), ("Misfit", "kind"))
            self.assertEqual(raised(ask, LEFT, three, Overlay(None, None, None, None)), ("Misfit", "kind"))


if __name__ == "__main__":
    unittest.main()
