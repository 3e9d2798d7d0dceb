"""Whether a value shows that a body is a plate, a box, or neither: right papers, and bent ones."""

import random
import unittest

from drawn import drawn_body, shuffled
from plain import ODD_VALUES, impostors, raised
from plain_layings import plain_failings, plain_starts, plain_tip_walks
from rimsewn.bodies import Body
from rimsewn.boxes import box, boxes_of
from rimsewn.cells import sheet_of
from rimsewn.check_kinds import shows_named, shows_plate
from rimsewn.listed import bodies_of
from rimsewn.named import Boxed, Other, named
from rimsewn.overlays import Apart, Overlay, places_on
from rimsewn.papers import Denial, Paper
from rimsewn.plates import NoPlate, Plate, doubled, plate
from rimsewn.sheets import Sheet
from rimsewn.slants import slanted

TETRA = Body.read("triangle 4 : 0 3 / 1 6 / 2 9 / 4 11 / 5 7 / 8 10")
PILLOW = doubled(Sheet.single("square"))
CAP = Body.read("square 1 : 0 1 / 2 3")
STRIP = doubled(sheet_of("square", [(x, 0) for x in range(5)]))
WORDS = ("end", "tip", "centre", "point", "gathers", "faces", "kept", "other", "")


class Plate2(Plate):
    """A class below that of the right papers."""


class NoPlate2(NoPlate):
    """A class below that of the right papers."""


class Boxed2(Boxed):
    """A class below that of the right papers."""


class Other2(Other):
    """A class below that of the right papers."""


class Overlay2(Overlay):
    """A class below that of the right papers."""


class Apart2(Apart):
    """A class below that of the right papers."""


def own_starts(body, walk):
    """The starts from the place alone where the walk begins."""
    return [start for start in plain_starts(body, body, walk) if body.place_of(start[0]) == body.place_of(walk[0])]


def moved(body, walk, start):
    """The least tip that the overlay of a start does not keep, None if it keeps each."""
    goal = places_on(body, body, Overlay(walk[0], walk[1], start[0], start[1]), True)
    return next((tip for tip in body.tips if goal[tip] != tip), None)


def right_failings(body, walk, start):
    """All failings that may be told of a start, with that of an overlay that does not keep each tip."""
    found = plain_failings(body, body, True, walk, start)
    if not found and moved(body, walk, start) is not None:
        found = {("kept", moved(body, walk, start))}
    return found


def some_bodies():
    """Plates and others, of both kinds of grid."""
    draw = random.Random(1)
    yield from (PILLOW, TETRA, CAP, slanted(CAP, 2, 1), box(1, 1, 1), slanted(TETRA, 2, 0))
    for kind, faces in (("square", 2), ("square", 3), ("square", 4), ("triangle", 2), ("triangle", 4), ("triangle", 6)):
        for body in bodies_of(kind, faces)[::2]:
            yield shuffled(body, draw)
    for kind in ("square", "triangle"):
        yield drawn_body(kind, 6, 1)


class PlateTest(unittest.TestCase):
    def test_what_plate_returns(self):
        words = {"plate": 0, "noplate": 0}
        for body in list(some_bodies()) + [drawn_body(kind, faces, 2) for kind in ("square", "triangle") for faces in (10, 24)]:
            paper = plate(body)
            words[paper.word] += 1
            self.assertIs(shows_plate(body, paper), True)
        self.assertGreater(min(words.values()), 5)

    def test_all_walks_and_all_starts(self):
        # Another walk than that of `plate`, with each start: a Plate only if the overlay keeps each tip.
        counts = {True: 0, False: 0}
        turned_away = 0
        draw = random.Random(2)
        for body in list(some_bodies()):
            walks = plain_tip_walks(body, 13)
            for walk in draw.sample(walks, min(2, len(walks))):
                for start in plain_starts(body, body, walk):
                    fails = plain_failings(body, body, True, walk, start)
                    right = not fails and moved(body, walk, start) is None
                    paper = Plate(Overlay(walk[0], list(walk[1]), start[0], list(start[1])))
                    self.assertIs(shows_plate(body, paper), right)
                    counts[right] += 1
                    turned_away += not fails and not right
        self.assertGreater(min(counts.values()), 10)
        self.assertGreater(turned_away, 10)

    def test_bent_plates(self):
        right = plate(PILLOW).overlay
        self.assertIs(shows_plate(PILLOW, Plate(right)), True)
        for value in ODD_VALUES + (right.parts, plate(PILLOW), Overlay2(*right.parts), Paper("overlay", *right.parts), Apart(0, (1, 0), ())):
            self.assertIs(shows_plate(PILLOW, Plate(value)), False)
            for at in range(4):
                parts = list(right.parts)
                parts[at] = value
                self.assertIs(shows_plate(PILLOW, Plate(Overlay(*parts))), list(parts) == list(right.parts) and not isinstance(value, bool))
        for value in ODD_VALUES + (right, Plate2(right), Paper("plate", right), Denial("plate", right), Plate, Boxed((1, 1, 1), right),
                                   *impostors(Plate(right))):
            self.assertIs(shows_plate(PILLOW, value), False)
        # The identity is no mirrored overlay of a body that is no plate; of another body it is none at all.
        self.assertIs(shows_plate(TETRA, plate(PILLOW)), False)
        self.assertIs(shows_plate(STRIP, plate(PILLOW)), False)


class NoPlateTest(unittest.TestCase):
    def test_each_failing_of_each_start(self):
        counts = {True: 0, False: 0}
        words = set()
        draw = random.Random(3)
        for body in [body for body in some_bodies() if body.faces <= 6]:
            paper = plate(body)
            if paper:
                continue
            walk = (paper.corner, paper.vector)
            starts = own_starts(body, walk)
            for at in draw.sample(range(len(starts)), min(3, len(starts))):
                right = right_failings(body, walk, starts[at])
                self.assertTrue(right)
                for word in WORDS:
                    for number in range(-1, body.skin.sides + 2):
                        failings = paper.failings[:at] + ((word, number),) + paper.failings[at + 1:]
                        told = shows_plate(body, NoPlate(walk[0], walk[1], failings))
                        self.assertIs(told, (word, number) in right)
                        counts[told] += 1
                        if told:
                            words.add(word)
        self.assertGreater(counts[True], 20)
        self.assertGreater(counts[False], 500)
        self.assertGreaterEqual(words, {"end", "centre", "gathers", "kept"})

    def test_another_walk_with_its_own_failings(self):
        counts = {True: 0, False: 0}
        ended = 0
        draw = random.Random(4)
        for body in some_bodies():
            walks = plain_tip_walks(body, 20)
            for walk in draw.sample(walks, min(5, len(walks))):
                rows = [sorted(right_failings(body, walk, start)) for start in own_starts(body, walk)]
                failings = [draw.choice(row) if row else ("end", 0) for row in rows]
                right = all(rows)
                self.assertIs(shows_plate(body, NoPlate(walk[0], walk[1], failings)), right)
                counts[right] += 1
                ended += right and ("end", 0) in failings
        self.assertGreater(min(counts.values()), 8)
        self.assertGreater(ended, 1)

    def test_kept_is_told_only_where_it_is_due(self):
        # Of the tetra each start exchanges two other tips; no other number, and no other word, is right.
        self.assertIs(shows_plate(TETRA, NoPlate(0, (1, 0), [("kept", 2), ("kept", 1), ("kept", 1)])), True)
        for failings in ([("kept", 1), ("kept", 1), ("kept", 1)], [("kept", 3), ("kept", 1), ("kept", 1)], [("kept", 0)] * 3, [("kept", 2)] * 3,
                         [("kept", 2), ("kept", 1)], [("kept", 2), ("kept", 1), ("kept", 1), ("kept", 1)], [("kept", 2), ("kept", True), ("kept", 1)],
                         [("kept", 2), ("kept", 1), ("end", 0)], [("kept", 2), ("kept", 1), ("kept",)], [("kept", 2), ("kept", 1), ("kept", 1, 1)],
                         [("kept", 2), ("kept", 1), None], [("kept", 2), ("kept", 1), "kept"], [("kept", 2), ("kept", 1), ["kept", 1.0]], []):
            self.assertIs(shows_plate(TETRA, NoPlate(0, (1, 0), failings)), False)
        # A start that fails otherwise has not this failing.
        for body in some_bodies():
            paper = plate(body)
            if not paper:
                for at, failing in enumerate(paper.failings):
                    if failing[0] != "kept":
                        for tip in list(body.tips) + [None]:
                            failings = paper.failings[:at] + (("kept", tip),) + paper.failings[at + 1:]
                            self.assertIs(shows_plate(body, NoPlate(paper.corner, paper.vector, failings)), False)

    def test_a_plate_has_no_right_noplate(self):
        for body in (PILLOW, CAP, STRIP):
            for walk in plain_tip_walks(body, 5)[:6]:
                many = len(own_starts(body, walk))
                for failing in (("end", 0), ("kept", body.tips[0]), ("kept", body.tips[-1]), ("gathers", 0), ("centre", 0), ("point", 0)):
                    self.assertIs(shows_plate(body, NoPlate(walk[0], walk[1], [failing] * many)), False)

    def test_bent_papers(self):
        right = plate(TETRA).parts
        self.assertIs(shows_plate(TETRA, NoPlate(*right)), True)
        self.assertIs(shows_plate(TETRA, NoPlate(right[0], list(right[1]), [list(failing) for failing in right[2]])), True)
        for value in ODD_VALUES + ((21, 0), (0, 1), (1, -1), (12, 16)):
            for at in range(3):
                parts = list(right)
                parts[at] = value
                same = fixed_alike(parts, right)
                self.assertIs(shows_plate(TETRA, NoPlate(*parts)), same)
        for value in ODD_VALUES + (right, NoPlate2(*right), Paper("noplate", *right), Denial("noplate", *right), NoPlate, *impostors(NoPlate(*right))):
            self.assertIs(shows_plate(TETRA, value), False)

    def test_no_body(self):
        for value in ODD_VALUES + (TETRA.skin, str(TETRA)):
            self.assertEqual(raised(shows_plate, value, None), ("BadBody", "body"))
            self.assertEqual(raised(shows_named, value, None), ("BadBody", "body"))


def fixed_alike(one, other):
    """Whether parts are the same, True and False being no numbers."""
    return repr(tuple(one)) == repr(tuple(other))


class NamedTest(unittest.TestCase):
    def test_what_named_returns(self):
        words = {"boxed": 0, "plate": 0, "other": 0}
        draw = random.Random(5)
        bodies = list(some_bodies()) + [shuffled(box(*sides), draw) for sides in ((1, 1, 2), (2, 1, 2), (1, 1, 5), (3, 1, 2), (2, 2, 2))]
        bodies += [STRIP] + [drawn_body("square", faces, 1) for faces in (10, 22, 24)]
        for body in bodies:
            paper = named(body)
            words[paper.word] += 1
            self.assertIs(shows_named(body, paper), True)
            if paper.word != "plate":
                self.assertIs(shows_plate(body, paper), False)
        self.assertGreater(min(words.values()), 4)

    def test_boxes(self):
        body = shuffled(box(1, 1, 2), random.Random(6))
        paper = named(body)
        self.assertIs(shows_named(body, Boxed([1, 1, 2], paper.overlay)), True)
        for sides in ((1, 2, 1), (2, 1, 1), (1, 1, 1), (1, 1, 3), (1, 2, 2), (1, 1), (1, 1, 2, 2), (True, 1, 2), (1, True, 2), (1.0, 1, 2), (0, 1, 2),
                      (-1, 1, 2), ("1", "1", "2"), (10 ** 30, 1, 1), (1, 5, 0)) + ODD_VALUES:
            self.assertIs(shows_named(body, Boxed(sides, paper.overlay)), False)
        for value in ODD_VALUES + (paper.overlay.parts, Overlay2(*paper.overlay.parts), plate(PILLOW), paper):
            self.assertIs(shows_named(body, Boxed((1, 1, 2), value)), False)
        for at in range(4):
            for value in (None, (1, 1), 10 ** 6, -1, True):
                parts = list(paper.overlay.parts)
                parts[at] = value
                same = fixed_alike(parts, paper.overlay.parts)
                self.assertIs(shows_named(body, Boxed((1, 1, 2), Overlay(*parts))), same)
        for value in ODD_VALUES + (paper.parts, Boxed2(*paper.parts), Paper("boxed", *paper.parts), Denial("boxed", *paper.parts), Boxed,
                                   *impostors(paper)):
            self.assertIs(shows_named(body, value), False)

    def test_other_right_overlays_onto_the_box(self):
        body = shuffled(box(1, 1, 2), random.Random(7))
        goal = box(1, 1, 2)
        counts = {True: 0, False: 0}
        for walk in plain_tip_walks(body, 2)[:6]:
            for start in plain_starts(body, goal, walk):
                right = not plain_failings(body, goal, False, walk, start)
                self.assertIs(shows_named(body, Boxed((1, 1, 2), Overlay(walk[0], walk[1], start[0], start[1]))), right)
                counts[right] += 1
        self.assertGreater(min(counts.values()), 5)

    def test_boxes_with_as_many_faces(self):
        # 22 faces: two boxes; the overlay fits just the one.
        self.assertEqual(boxes_of(22), ((1, 1, 5), (1, 2, 3)))
        for sides, other in (((1, 1, 5), (1, 2, 3)), ((1, 2, 3), (1, 1, 5))):
            paper = named(box(*sides))
            self.assertEqual(paper.sides, sides)
            self.assertIs(shows_named(box(*sides), paper), True)
            self.assertIs(shows_named(box(*sides), Boxed(other, paper.overlay)), False)
        # A triple of another number of faces, of which the overlay would be right on its own box.
        self.assertIs(shows_named(PILLOW, Boxed((1, 1, 1), named(box(1, 1, 1)).overlay)), False)
        self.assertIs(shows_named(TETRA, Boxed((1, 1, 1), named(box(1, 1, 1)).overlay)), False)

    def test_others(self):
        seen = {1: 0, 2: 0}
        for faces in (6, 10, 14, 16, 22):
            for seed in range(3):
                body = drawn_body("square", faces, seed)
                paper = named(body)
                if paper.word != "other":
                    continue
                aparts, noplate = paper.parts
                self.assertEqual(len(aparts), len(boxes_of(faces)))
                seen[min(len(aparts), 2)] += 1
                self.assertIs(shows_named(body, Other(list(aparts), noplate)), True)
                first, rest = aparts[0], aparts[1:]
                bent = [rest, aparts[:-1], aparts + aparts[-1:], (), None, 0, first, [aparts], (None,) + rest, (noplate,) + rest,
                        (Apart2(*first.parts),) + rest, (Denial("apart", *first.parts),) + rest,
                        (Apart(first.corner, first.vector, first.failings + (("end", 0),)),) + rest,
                        (Apart(first.corner, (0, 1), first.failings),) + rest]
                for its in bent:
                    self.assertIs(shows_named(body, Other(its, noplate)), False)
                for its in (None, plate(PILLOW), *impostors(noplate), noplate.parts, NoPlate2(*noplate.parts), NoPlate(noplate.corner, noplate.vector, ()), aparts[0]):
                    self.assertIs(shows_named(body, Other(aparts, its)), False)
                for its in impostors(first):
                    self.assertIs(shows_named(body, Other((its,) + rest, noplate)), False)
                for value in (paper.parts, Other2(*paper.parts), Denial("other", *paper.parts), Paper("other", *paper.parts), Other, *impostors(paper)):
                    self.assertIs(shows_named(body, value), False)
        self.assertGreater(min(seen.values()), 1)

    def test_aparts_out_of_order(self):
        seen = 0
        for seed in range(8):
            body = drawn_body("square", 22, seed)
            paper = named(body)
            if paper.word == "other":
                one, other = paper.aparts
                right = all(shows_apart(body, sides, apart) for sides, apart in zip(boxes_of(22), (other, one)))
                self.assertIs(shows_named(body, Other((other, one), paper.noplate)), right)
                seen += not right
        self.assertGreater(seen, 3)

    def test_triangles_have_no_aparts(self):
        noplate = plate(TETRA)
        self.assertIs(shows_named(TETRA, Other([], noplate)), True)
        self.assertIs(shows_named(TETRA, Other((), plate(PILLOW))), False)
        self.assertIs(shows_named(TETRA, Other([Apart(0, (1, 0), [])], noplate)), False)
        for value in (None, 0, "", {}):
            self.assertIs(shows_named(TETRA, Other(value, noplate)), False)

    def test_plates_and_denials_alone(self):
        self.assertIs(shows_named(PILLOW, plate(PILLOW)), True)
        self.assertIs(shows_named(TETRA, plate(TETRA)), False)
        self.assertIs(shows_named(PILLOW, plate(PILLOW).overlay), False)
        for value in ODD_VALUES + ("plate",):
            self.assertIs(shows_named(PILLOW, value), False)

    def test_a_box_has_no_right_other(self):
        body = box(1, 1, 2)
        noplate = plate(body)
        for failing in (("end", 0), ("gathers", 0), ("centre", 0), ("point", 0)):
            for walk in plain_tip_walks(body, 2)[:3]:
                many = len(plain_starts(body, body, walk))
                self.assertIs(shows_named(body, Other([Apart(walk[0], walk[1], [failing] * many)], noplate)), False)


def shows_apart(body, sides, apart):
    """Whether an Apart of a body and a box is right, by walking the starts."""
    walk = (apart.corner, apart.vector)
    starts = plain_starts(body, box(*sides), walk)
    return len(starts) == len(apart.failings) and all(
        failing in plain_failings(body, box(*sides), False, walk, start) for start, failing in zip(starts, apart.failings))


if __name__ == "__main__":
    unittest.main()
