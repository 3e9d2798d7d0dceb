"""Cuts: against all sets of seams of small bodies."""

import random
import unittest

from drawn import drawn_body, shuffled
from plain import ODD_VALUES, raised
from plain_cuts import plain_cuts, plain_ends, plain_leads, plain_reached, plain_refusal_of_cut, plain_ring, sets_of_seams
from rimsewn.bodies import Body
from rimsewn.boxes import box
from rimsewn.cuts import Cut, cuts, idle, pared
from rimsewn.listed import bodies_of

PILLOW = Body.read("square 2 : 0 4 / 1 7 / 2 6 / 3 5")
QUARTERS = Body.read("square 4 : 0 11 / 1 6 / 2 13 / 3 8 / 4 7 / 5 10 / 9 14 / 12 15")
# A seam that leads from a place to itself.
LOOPED = Body.read("triangle 2 : 0 1 / 2 3 / 4 5")


def small_bodies():
    """Bodies of at most eight seams, each with its numbers drawn."""
    draw = random.Random(1)
    for kind, faces in (("square", 1), ("square", 2), ("square", 3), ("triangle", 2), ("triangle", 4)):
        for body in bodies_of(kind, faces):
            yield shuffled(body, draw)
    for body in bodies_of("square", 4)[::5]:
        yield shuffled(body, draw)
    yield QUARTERS


class CutTest(unittest.TestCase):
    def test_all_sets_of_seams(self):
        counts = {}
        for body in small_bodies():
            for seams in sets_of_seams(body):
                refusal = plain_refusal_of_cut(body, seams)
                counts[refusal] = counts.get(refusal, 0) + 1
                self.assertEqual(raised(Cut, body, seams), refusal, (str(body), seams))
                if refusal is None:
                    self.told_well(body, seams)
        self.assertEqual(len(counts), 4)
        self.assertGreater(min(counts.values()), 50)

    def told_well(self, body, seams):
        cut = Cut(body, seams)
        leads = plain_leads(body)
        self.assertEqual(cut.seams, seams)
        self.assertEqual(cut.reached, tuple(plain_reached([leads[seam] for seam in seams])))
        self.assertEqual(cut.ends, tuple(plain_ends(body, seams)))
        self.assertEqual(len(cut), len(seams))
        self.assertEqual(len(cut.reached), len(seams) + 1)
        self.assertTrue(cut.body == body)
        self.assertEqual(idle(cut), tuple(place for place in cut.ends if body.gathers[place] == body.full))

    def test_ring_ahead_of_pieces_ahead_of_tips(self):
        # Of pillow all four seams are a ring; two of them across are two pieces, two in turn lack a tip.
        self.assertEqual(raised(Cut, PILLOW, [0, 1, 2, 3]), ("BadCut", "ring"))
        leads = plain_leads(PILLOW)
        across = [seam for seam in (1, 2, 3) if not set(leads[seam]) & set(leads[0])][0]
        self.assertEqual(raised(Cut, PILLOW, [0, across]), ("BadCut", "pieces"))
        self.assertEqual(raised(Cut, PILLOW, [0]), ("BadCut", "tips"))
        # A ring beside a further piece; both without some tip.
        seen = set()
        for body in small_bodies():
            for seams in sets_of_seams(body):
                if plain_refusal_of_cut(body, seams) == ("BadCut", "ring"):
                    rest = [seam for seam in seams if plain_refusal_of_cut(body, (seam,)) != ("BadCut", "ring")]
                    seen.add(bool(rest) and plain_refusal_of_cut(body, tuple(rest)))
        self.assertGreater(len(seen), 2)

    def test_a_seam_from_a_place_to_itself(self):
        self.assertEqual([one == other for one, other in plain_leads(LOOPED)], [False, True, False])
        for seams in ([1], [0, 1], [0, 1, 2], [2, 1]):
            self.assertEqual(raised(Cut, LOOPED, seams), ("BadCut", "ring"))
        self.assertIsNone(raised(Cut, LOOPED, [0, 2]))

    def test_seams_in_any_order(self):
        for order in ([7, 4, 3, 1, 0], (0, 1, 3, 4, 7), [3, 0, 7, 1, 4]):
            cut = Cut(QUARTERS, order)
            self.assertEqual(cut.seams, (0, 1, 3, 4, 7))
            self.assertTrue(cut == Cut(QUARTERS, [0, 1, 3, 4, 7]))

    def test_no_seams_of_this_body(self):
        for value in ODD_VALUES[:8] + ({}, {0: 1}, {0, 1}, object(), [], (), [None], [True, 2], [0, False], [0, 1.0], ["0"], [[0]], [0, 1, -1],
                                       [0, 1, 4], [0, 0, 1], [1, 2, 1], [10 ** 40], range(3), "012", [0, 1, 2, 3, 3]):
            self.assertEqual(raised(Cut, PILLOW, value), ("BadCut", "seams"), value)
        self.assertEqual(raised(Cut, PILLOW, [3, 0, 1]), None)
        self.assertEqual(raised(Cut, QUARTERS, [0, 3, 4, 8]), ("BadCut", "seams"))

    def test_no_body(self):
        for value in ODD_VALUES + (PILLOW.skin, str(PILLOW)):
            self.assertEqual(raised(Cut, value, None), ("BadBody", "body"))
            self.assertEqual(raised(cuts, value), ("BadBody", "body"))

    def test_the_list_is_copied(self):
        seams = [3, 1, 0]
        cut = Cut(PILLOW, seams)
        seams.append(2)
        seams[0] = 2
        self.assertEqual(cut.seams, (0, 1, 3))

    def test_equality(self):
        one = Cut(PILLOW, [0, 1, 2])
        self.assertTrue(one == Cut(Body.read(str(PILLOW)), (2, 1, 0)))
        self.assertTrue(one != Cut(PILLOW, [0, 1, 3]))
        other = shuffled(PILLOW, random.Random(1))
        self.assertFalse(one == Cut(other, [0, 1, 2]) if str(other) != str(PILLOW) else False)
        for value in ODD_VALUES + (PILLOW, (0, 1, 2)):
            self.assertFalse(one == value)
            self.assertFalse(value == one)

    def test_by_name(self):
        self.assertTrue(Cut(body=PILLOW, seams=[0, 1, 2]) == Cut(PILLOW, [0, 1, 2]))


class IdleTest(unittest.TestCase):
    def pared_by_hand(self, body, seams, draw):
        """The seams left when those at idle ends are left out one by one, in a drawn order."""
        left = list(seams)
        while True:
            leads = plain_leads(body)
            ends = [place for place in plain_ends(body, left) if place not in body.tips]
            if not ends:
                return tuple(left)
            end = draw.choice(ends)
            left = [seam for seam in left if end not in leads[seam]]

    def drawn_cuts(self, draw):
        """Trees of large bodies that reach all places, each a cut."""
        for kind in ("square", "triangle"):
            for faces in (6, 10, 24):
                body = drawn_body(kind, faces, 3)
                leads = plain_leads(body)
                for _ in range(4):
                    seams = []
                    for seam in draw.sample(range(len(leads)), len(leads)):
                        if not plain_ring([leads[at] for at in seams + [seam]], len(body.places)):
                            seams.append(seam)
                    yield body, tuple(sorted(seams))

    def test_pared_in_any_order(self):
        draw = random.Random(2)
        twice = 0
        rows = [(body, plain_cuts(body)) for body in small_bodies()] + [(body, [seams]) for body, seams in self.drawn_cuts(draw)]
        for body, told in rows:
            for seams in told:
                cut = Cut(body, seams)
                left = pared(cut)
                self.assertIsInstance(left, Cut)
                self.assertEqual(idle(left), ())
                for _ in range(2):
                    self.assertEqual(left.seams, self.pared_by_hand(body, seams, draw))
                self.assertIs(left == cut, idle(cut) == ())
                twice += len(cut) - len(left) > len(idle(cut))
                self.assertEqual(cut.seams, seams)
        self.assertGreater(twice, 3)

    def test_no_cut(self):
        for value in ODD_VALUES + (PILLOW, [0, 1, 2]):
            self.assertEqual(raised(idle, value), ("BadCut", "cut"))
            self.assertEqual(raised(pared, value), ("BadCut", "cut"))


class AllCutsTest(unittest.TestCase):
    def test_all_of_them(self):
        for body in small_bodies():
            right = [seams for seams in plain_cuts(body) if not set(plain_ends(body, seams)) - set(body.tips)]
            told = cuts(body)
            self.assertIsInstance(told, tuple)
            self.assertEqual([cut.seams for cut in told], sorted(right, key=lambda seams: (len(seams), seams)))
            for cut in told:
                self.assertIsInstance(cut, Cut)
                self.assertEqual(idle(cut), ())
                self.assertTrue(cut.body == body)
            self.assertEqual({cut.seams for cut in told}, {pared(Cut(body, seams)).seams for seams in plain_cuts(body)})

    def test_twelve_seams_and_thirteen(self):
        self.assertEqual(len(cuts(box(1, 1, 1))), 384)
        for seed in range(3):
            for kind, few, more in (("square", 6, 7), ("triangle", 8, 10)):
                body = drawn_body(kind, few, seed)
                self.assertEqual(len(body.skin.seams), 12)
                told = cuts(body)
                self.assertTrue(all(raised(Cut, body, cut.seams) is None and not idle(cut) for cut in told))
                self.assertEqual(raised(cuts, drawn_body(kind, more, seed)), ("TooMany", "seams", 12))
        # Seven squares have fourteen seams, so thirteen are of no body; ten triangles have fifteen.
        self.assertEqual(len(drawn_body("square", 7, 1).skin.seams), 14)


if __name__ == "__main__":
    unittest.main()
