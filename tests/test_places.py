"""Places, rims, pieces and the surplus of skins."""

import unittest

from plain import ODD_VALUES, joined, raised, random_seams
from rimsewn.cells import sheet_of
from rimsewn.places import gathers, pieces, place_of, places, rims, round_from, surplus
from rimsewn.skins import Skin

PILLOW = Skin("square", 2, [(0, 4), (1, 7), (2, 6), (3, 5)])
TORUS = Skin("square", 1, [(0, 2), (1, 3)])
RING = [(0, 0), (1, 0), (2, 0), (2, 1), (2, 2), (1, 2), (0, 2), (0, 1)]


def skins():
    for kind in ("square", "triangle"):
        for faces in (1, 2, 3, 6):
            for many in (0, 1, faces, 2 * faces, 9):
                for seed in range(3):
                    yield Skin(kind, faces, random_seams(kind, faces, many, 10 * seed + faces))


class PlacesTest(unittest.TestCase):
    def test_corners_are_joined_as_seams_tell(self):
        for skin in skins():
            groups = []
            for one, other in skin.seams:
                groups += [(one, skin.next(other)), (skin.next(one), other)]
            self.assertEqual(sorted(tuple(sorted(place)) for place in places(skin)), joined(groups, skin.sides))

    def test_how_places_are_told(self):
        for skin in skins():
            told = places(skin)
            self.assertEqual([min(place) for place in told], sorted(min(place) for place in told))
            for index, place in enumerate(told):
                for corner, behind in zip(place, place[1:]):
                    self.assertEqual(round_from(skin, corner), behind)
                    self.assertEqual(behind, skin.mate(skin.back(corner)))
                last = round_from(skin, place[-1])
                if skin.mate(place[0]) is None:
                    self.assertIsNone(last)
                    self.assertIsNone(skin.mate(skin.back(place[-1])))
                    self.assertEqual([corner for corner in place if skin.mate(corner) is None], [place[0]])
                else:
                    self.assertEqual((last, min(place)), (place[0], place[0]))
                self.assertEqual(gathers(skin)[index], len(place))
                for corner in place:
                    self.assertEqual(place_of(skin, corner), index)

    def test_rims(self):
        for skin in skins():
            told = rims(skin)
            self.assertEqual(sorted(side for rim in told for side in rim), list(skin.free))
            self.assertEqual(list(told), sorted(told))
            for rim in told:
                self.assertEqual(rim[0], min(rim))
                for side, behind in zip(rim, rim[1:] + rim[:1]):
                    place = places(skin)[place_of(skin, skin.next(side))]
                    self.assertEqual(place[0], behind)

    def test_facts(self):
        for skin in skins():
            faces = [(skin.face(one), skin.face(other)) for one, other in skin.seams]
            many = len(joined(faces, skin.faces))
            self.assertEqual(pieces(skin), many)
            self.assertEqual(surplus(skin), skin.faces + len(places(skin)) - skin.sides + len(skin.seams))
            together = surplus(skin) + len(rims(skin))
            self.assertEqual(together % 2, 0)
            self.assertLessEqual(together, 2 * many)

    def test_some_skins(self):
        self.assertEqual((rims(PILLOW), pieces(PILLOW), surplus(PILLOW)), ((), 1, 2))
        self.assertEqual(places(PILLOW), ((0, 5), (1, 4), (2, 7), (3, 6)))
        self.assertEqual((places(TORUS), surplus(TORUS), rims(TORUS)), (((0, 1, 2, 3),), 0, ()))
        two = Skin("triangle", 2)
        self.assertEqual((rims(two), pieces(two), surplus(two)), (((0, 1, 2), (3, 4, 5)), 2, 2))
        cone = Skin("square", 1, [(0, 1)])
        self.assertEqual((places(cone), rims(cone), surplus(cone)), (((2, 0), (1,), (3,)), ((2, 3),), 1))
        self.assertEqual(gathers(Skin("square", 24)), (1,) * 96)
        self.assertEqual(raised(sheet_of, "square", RING), ("BadSheet", "rims"))

    def test_ring_of_cells(self):
        ring = Skin("square", 8, [(1, 7), (5, 11), (10, 12), (14, 16), (19, 21), (23, 25), (24, 30), (28, 2)])
        self.assertEqual([len(rim) for rim in rims(ring)], [12, 4])
        self.assertEqual((pieces(ring), surplus(ring)), (1, 0))

    def test_what_is_refused(self):
        for value in ODD_VALUES + (str(PILLOW),):
            for ask in (places, gathers, rims, pieces, surplus):
                self.assertEqual(raised(ask, value), ("BadSkin", "skin"))
            for ask in (round_from, place_of):
                self.assertEqual(raised(ask, value, None), ("BadSkin", "skin"))
        for value in ODD_VALUES + (8, -1):
            for ask in (round_from, place_of):
                if value != 0 or isinstance(value, bool):
                    self.assertEqual(raised(ask, PILLOW, value), ("NoSide", value))


if __name__ == "__main__":
    unittest.main()
