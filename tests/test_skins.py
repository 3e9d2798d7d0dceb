"""Skins: what is refused, sides, seams, mirrored ones, texts."""

import unittest

from plain import ODD_VALUES, bent_texts, check_no_texts, check_reading, raised, random_seams, whole_number
from rimsewn.skins import Skin

TURN = {"square": 4, "triangle": 3}


def can_stand(words):
    """Whether the last word of a text of a skin can stand behind the others, which can."""
    at, word = len(words) - 1, words[-1]
    number = whole_number(word)
    if at == 0:
        return word in TURN
    if at == 1:
        return number is not None and 1 <= number <= 24
    if at == 2:
        return word == ":"
    if at % 3 == 2:
        return word == "/"
    sides = int(words[1]) * TURN[words[0]]
    ahead = [int(one) for k, one in enumerate(words[:-1]) if k > 2 and k % 3 != 2]
    if number is None or number >= sides or number in ahead:
        return False
    if at == 3:
        return True
    return number > int(words[-2] if at % 3 == 1 else words[-4])


def lacks(words):
    """Whether a word is missing behind these."""
    return len(words) < 3 or (len(words) > 3 and len(words) % 3 != 2)


class SkinsTest(unittest.TestCase):
    def test_attributes(self):
        skin = Skin("square", 1)
        self.assertEqual((skin.kind, skin.faces, skin.seams, skin.turn, skin.full, skin.sides, skin.free),
                         ("square", 1, (), 4, 4, 4, (0, 1, 2, 3)))
        skin = Skin("triangle", 2, ((5, 0), [1, 2]))
        self.assertEqual((skin.kind, skin.faces, skin.seams, skin.turn, skin.full, skin.sides, skin.free),
                         ("triangle", 2, ((0, 5), (1, 2)), 3, 6, 6, (3, 4)))
        full = Skin("square", 24, [(2 * k, 2 * k + 1) for k in range(48)])
        self.assertEqual((full.sides, full.free, len(full.seams)), (96, (), 48))

    def test_what_is_refused_in_order(self):
        for value in ODD_VALUES + ("cube",):
            self.assertEqual(raised(Skin, value, None, None), ("BadKind", "kind"))
        for value in ODD_VALUES + (0, -3):
            if not (isinstance(value, int) and not isinstance(value, bool) and value > 0):
                self.assertEqual(raised(Skin, "square", value, None), ("BadSkin", "faces"))
        for value in (None, 0, "", "01", {}, {0: 1}, [0], [(0,)], [(0, 1, 2)], [(0, 0)], [(0, 4)], [(4, 0)], [(-1, 0)], [(0, -1)], [(0, True)],
                      [(0, None)], ["01"], [(0, 1), None], [[0, 1.0]], range(0), [{0, 1}]):
            self.assertEqual(raised(Skin, "square", 1, value), ("BadSkin", "seams"))
        self.assertEqual(raised(Skin, "square", 25, [(0, 100)]), ("BadSkin", "seams"))
        self.assertEqual(raised(Skin, "square", 2, [(3, 5), (5, 3)]), ("Twice", 5))
        self.assertEqual(raised(Skin, "square", 2, [(3, 5), (1, 3), (5, 1)]), ("Twice", 3))
        self.assertEqual(raised(Skin, "square", 25, [(0, 99), (99, 1)]), ("Twice", 99))
        self.assertEqual(raised(Skin, "square", 25, [(0, 99)]), ("TooMany", "faces", 24))
        self.assertEqual(raised(Skin, "triangle", 10 ** 30), ("TooMany", "faces", 24))
        self.assertIsNone(raised(Skin, "triangle", 24, [(0, 71)]))

    def test_seams_in_any_order(self):
        for kind in TURN:
            for seed in range(6):
                seams = random_seams(kind, 5, seed + 1, seed)
                other = [tuple(reversed(seam)) for seam in reversed(seams)]
                self.assertTrue(Skin(kind, 5, seams) == Skin(kind, 5, other))
                self.assertEqual(Skin(kind, 5, seams).seams, tuple(sorted(tuple(sorted(seam)) for seam in seams)))

    def test_what_is_passed_is_copied(self):
        seams = [[7, 1]]
        skin = Skin("square", 2, seams)
        seams[0][0] = 6
        seams.append([0, 2])
        self.assertEqual((str(skin), skin.mate(1), skin.mate(0)), ("square 2 : 1 7", 7, None))
        more = [[0, 2]]
        skin.with_seams(more)
        self.assertEqual((more, str(skin)), ([[0, 2]], "square 2 : 1 7"))

    def test_sides_of_faces(self):
        for kind, turn in TURN.items():
            skin = Skin(kind, 3, random_seams(kind, 3, 3, 1))
            for side in range(skin.sides):
                face, k = divmod(side, turn)
                self.assertEqual(skin.face(side), face)
                self.assertEqual(skin.next(side), face * turn + (k + 1) % turn)
                self.assertEqual(skin.back(side), face * turn + (k - 1) % turn)
                mates = [set(seam) - {side} for seam in skin.seams if side in seam]
                self.assertEqual(skin.mate(side), mates[0].pop() if mates else None)

    def test_no_side(self):
        skin = Skin("triangle", 2, [(0, 3)])
        for method in (skin.mate, skin.next, skin.back, skin.face):
            for value in ODD_VALUES + (6, -1, 10 ** 40, "3"):
                self.assertEqual(raised(method, value), ("NoSide", value))
            for value in range(6):
                self.assertIsNone(raised(method, value))

    def test_with_seams(self):
        skin = Skin("square", 2, [(1, 7)])
        self.assertEqual(str(skin.with_seams([[4, 0], (2, 3)])), "square 2 : 0 4 / 1 7 / 2 3")
        self.assertTrue(skin.with_seams([]) == skin)
        for value in (None, [(0, 0)], [(0, 8)], [0, 2], "02"):
            self.assertEqual(raised(skin.with_seams, value), ("BadSkin", "seams"))
        self.assertEqual(raised(skin.with_seams, [(0, 2), (7, 2)]), ("Twice", 7))
        self.assertEqual(raised(skin.with_seams, [(0, 2), (2, 1)]), ("Twice", 2))
        self.assertEqual(raised(skin.with_seams, [(7, 1)]), ("Twice", 7))

    def test_mirrored(self):
        for kind, turn in TURN.items():
            for seed in range(5):
                skin = Skin(kind, 4, random_seams(kind, 4, 4, seed))
                other = skin.mirrored()
                self.assertTrue(other.mirrored() == skin)
                for side in range(skin.sides):
                    def mirror(number):
                        return None if number is None else number // turn * turn + turn - 1 - number % turn
                    self.assertEqual(other.mate(mirror(side)), mirror(skin.mate(side)))

    def test_equality(self):
        skin = Skin("square", 3, [(0, 1)])
        self.assertTrue(skin == Skin("square", 3, [(1, 0)]))
        for other in (Skin("triangle", 3, [(0, 1)]), Skin("square", 2, [(0, 1)]), Skin("square", 3), str(skin), None):
            self.assertFalse(skin == other)
            self.assertTrue(skin != other)

    def test_texts(self):
        for kind in TURN:
            for faces, many in ((1, 0), (1, 1), (2, 2), (3, 4), (24, 30)):
                skin = Skin(kind, faces, random_seams(kind, faces, many, faces))
                self.assertTrue(Skin.read(str(skin)) == skin)
                self.assertEqual(str(Skin.read(str(skin))), str(skin))
        self.assertEqual(str(Skin("triangle", 1)), "triangle 1 :")

    def test_bent_texts(self):
        right = ["square 1 :", "square 1 : 0 1 / 2 3", "triangle 2 : 1 4", "triangle 3 : 0 8 / 1 2 / 3 6 / 5 7"]
        for text in right:
            check_reading(self, Skin.read, bent_texts(text) + [text], can_stand, lacks)
        more = ["", " ", "square", "square 25 :", "square 24 : 94 95", "square 1 : 3", "square 1 : 3 2", "square  1 :",
                "square 1 : 0 1 /", "square 1 : 0 1 / ", "square 1 : 0 1 2", "square 1 :\n", "square 1 : 2 3 / 0 1",
                "square 2 : 0 5 / 1 5", "square 2 : 0 5 / 5 6", "square 1 " + ": " * 9, "square " + "9" * 61,
                "square 1 : " + "9" * 5000, "square \u0661 :"]
        check_reading(self, Skin.read, more, can_stand, lacks)
        check_no_texts(self, Skin.read)


if __name__ == "__main__":
    unittest.main()
