"""Papers and denials, and all classes of papers."""

import importlib
import pathlib
import unittest

from rimsewn.answers import Always, Both, Never
from rimsewn.clashes import Clash
from rimsewn.codes import Renaming, Unlike
from rimsewn.common import Common, NoCommon
from rimsewn.fewest import Fewest
from rimsewn.made import NotMade
from rimsewn.named import Boxed, Other
from rimsewn.offers import Offer
from rimsewn.overlays import Apart, Overlay
from rimsewn.papers import Denial, Paper, exactly, fixed
from rimsewn.plates import NoPlate, Plate
from rimsewn.roads import Road
from rimsewn.sewn import Sewing, Unsewn
from rimsewn.walks import Came, Ended
from rimsewn.ways import Parted, Way

PACKAGE = pathlib.Path(__file__).resolve().parent.parent / "rimsewn"
CLASSES = {Sewing: ("partners",), Unsewn: ("rows",), Always: ("rows",), Never: ("rows",), Both: ("one", "other"),
           Clash: ("numbers", "rows", "spared"), Offer: ("number", "counts"), Renaming: ("sides",),
           Unlike: ("code", "other"), Came: ("place", "corner", "sides"), Ended: ("place", "part"),
           Road: ("corner", "a", "b"), Overlay: ("corner", "vector", "other", "its"),
           Apart: ("corner", "vector", "failings"), Plate: ("overlay",), NoPlate: ("corner", "vector", "failings"),
           Boxed: ("sides", "overlay"), Other: ("aparts", "noplate"), Fewest: ("seams", "rows"), NotMade: ("codes",),
           Common: ("one", "other", "sides"), NoCommon: ("ones", "others"), Way: ("rows",), Parted: ("rows",)}
DENIALS = (Unsewn, Never, Unlike, Ended, Apart, NoPlate, Other, NotMade, NoCommon, Parted)
VALUES = (None, 0, True, "text", [1, [2, (3, [])]], [], {"a": [1]}, object())


class PapersTest(unittest.TestCase):
    def test_fixed(self):
        self.assertEqual(fixed([1, [2, (3, [4, [5]])]]), (1, (2, (3, (4, (5,))))))
        self.assertEqual(fixed(([],)), ((),))
        inner = [1]
        kept = {"a": inner}
        self.assertIs(fixed(kept), kept)
        self.assertIs(fixed([kept])[0], kept)
        for value in (None, True, 0, "ab", b"ab", 1.5):
            self.assertIs(fixed(value), value)
        rows = [[1], [2]]
        fixed(rows)
        self.assertEqual(rows, [[1], [2]])
        deep = 0
        for _ in range(60):
            deep = [deep]
        told = fixed(deep)
        for _ in range(60):
            self.assertIsInstance(told, tuple)
            told = told[0]
        self.assertEqual(told, 0)

    def test_paper(self):
        rows = [1, [2]]
        paper = Paper("note", rows, "x")
        rows[1].append(3)
        self.assertEqual((paper.word, paper.parts), ("note", ((1, (2,)), "x")))
        self.assertEqual(Paper("note").parts, ())
        self.assertIs(bool(Paper("note")), True)
        self.assertIs(bool(Denial("note", 1)), False)
        self.assertEqual((Denial("no", [1]).word, Denial("no", [1]).parts), ("no", ((1,),)))
        self.assertIsInstance(Denial("note"), Paper)

    def test_equality(self):
        self.assertTrue(Paper("note", [1]) == Paper("note", (1,)))
        self.assertTrue(Paper("note", 1) == Paper("note", True))
        self.assertTrue(Denial("note", [1]) == Denial("note", (1,)))
        for other in (Paper("note", 2), Paper("not", 1), Paper("note"), Paper("note", 1, 1), Denial("note", 1),
                      ("note", (1,)), "note", None, 1):
            self.assertFalse(Paper("note", 1) == other)
            self.assertFalse(other == Paper("note", 1))
            self.assertTrue(Paper("note", 1) != other)

    def test_all_classes_by_place_and_by_name(self):
        for made, names in CLASSES.items():
            for value in VALUES:
                by_place = made(*[value for _ in names])
                by_name = made(**{name: value for name in names})
                self.assertTrue(by_place == by_name)
                for paper in (by_place, by_name):
                    self.assertEqual(paper.word, made.__name__.lower())
                    self.assertEqual(paper.parts, tuple(fixed(value) for _ in names))
                    for name in names:
                        self.assertEqual(getattr(paper, name), fixed(value))
                    self.assertIs(bool(paper), made not in DENIALS)
                    self.assertIsInstance(paper, Paper)
                    self.assertEqual(isinstance(paper, Denial), made in DENIALS)

    def test_all_classes_of_the_package_are_here(self):
        found = set()
        for path in PACKAGE.glob("*.py"):
            module = importlib.import_module("rimsewn." + path.stem)
            found |= {value for value in vars(module).values() if isinstance(value, type) and issubclass(value, Paper)}
        self.assertEqual(found, set(CLASSES) | {Paper, Denial})

    def test_equality_of_all_classes(self):
        for made, names in CLASSES.items():
            parts = [[number, [1]] for number in range(len(names))]
            paper = made(*parts)
            self.assertTrue(paper == made(*fixed(parts)))
            self.assertTrue(paper == made(**dict(zip(names, parts))))
            for at in range(len(names)):
                bent = parts[:at] + [[at, [2]]] + parts[at + 1:]
                self.assertFalse(paper == made(*bent))
            for other in CLASSES:
                if other != made and len(CLASSES[other]) == len(names):
                    self.assertFalse(paper == other(*parts))
            for value in (None, 0, "", tuple(paper.parts), Paper(paper.word, *parts), Denial(paper.word, *parts)):
                self.assertFalse(paper == value)
                self.assertFalse(value == paper)

    def test_parts_keep_their_order(self):
        for made, names in CLASSES.items():
            paper = made(*range(len(names)))
            self.assertEqual([getattr(paper, name) for name in names], list(range(len(names))))
            self.assertEqual(paper.parts, tuple(range(len(names))))

    def test_papers_within_papers(self):
        overlay = Overlay(0, [1, 0], 0, [1, 0])
        self.assertTrue(Plate(overlay) == Plate(Overlay(0, (1, 0), 0, (1, 0))))
        self.assertFalse(Plate(overlay) == Plate(Overlay(0, (1, 0), 1, (1, 0))))
        self.assertIs(Plate(overlay).overlay, overlay)
        apart = Apart(0, [1, 0], [("end", 0)])
        self.assertTrue(Other([apart], NoPlate(0, [1, 0], [])) == Other((Apart(0, (1, 0), (("end", 0),)),), NoPlate(0, (1, 0), ())))
        self.assertIs(Other([apart], None).aparts[0], apart)

    def test_exactly(self):
        for one, other in ((0, 0), ("a", "a"), ([1, (2, [])], (1, [2, ()])), ([], ()), (10 ** 40, 10 ** 40)):
            self.assertIs(exactly(one, other), True)
        for one, other in ((0, 1), (1, True), (False, 0), (1, 1.0), ("1", 1), ([1], 1), ([1], [1, 1]), ([1], [[1]]), (None, None),
                           ({}, {}), ("", ()), ([True], [1]), (Paper("a"), Paper("a"))):
            self.assertIs(exactly(one, other), False)

    def test_unlike_classes_are_unequal(self):
        self.assertFalse(Sewing([1, 0]) == Paper("sewing", [1, 0]))
        self.assertFalse(Paper("sewing", [1, 0]) == Sewing([1, 0]))
        self.assertFalse(Unsewn([]) == Denial("unsewn", []))
        self.assertFalse(Always([]) == Never([]))
        self.assertFalse(Unsewn([]) == Always([]))


if __name__ == "__main__":
    unittest.main()
