"""What holds of all functions of the interface: what is refused, parameter by parameter, in their order."""

import importlib
import inspect
import unittest

from plain import ODD_VALUES, raised
from rimsewn.bodies import Body
from rimsewn.books import Book
from rimsewn.cells import sheet_of
from rimsewn.cuts import Cut
from rimsewn.desk import Desk
from rimsewn.nestings import Nesting
from rimsewn.overlays import Overlay
from rimsewn.rims import Rim
from rimsewn.sayings import Joined
from rimsewn.skins import Skin
from rimsewn.tables import Table
from test_interface import FUNCTIONS

SHEET = sheet_of("square", [(0, 0), (1, 0)])
RIM = Rim.of(SHEET)
NESTING = Nesting([1, 0, 3, 2, 5, 4])
BODY = Body.read("square 1 : 0 1 / 2 3")
# What may be passed under a name, and the error of what may not.
KNOWN = {"kind": ("square", ("BadKind", "kind")), "skin": (SHEET.skin, ("BadSkin", "skin")), "sheet": (SHEET, ("BadSheet", "sheet")),
         "rim": (RIM, ("BadRim", "rim")), "nesting": (NESTING, ("BadNesting", "nesting")), "book": (Book(RIM), ("BadBook", "book")),
         "saying": (Joined(0, 1), ("BadSaying", "saying")), "sayings": ([Joined(0, 1)], ("BadSaying", "sayings")),
         "body": (BODY, ("BadBody", "body")), "cut": (Cut(BODY, [0, 1]), ("BadCut", "cut")), "table": (Table(), ("BadDesk", "table")),
         "line": ("names", ("BadText", 0, 0)), "cells": ([(0, 0)], ("BadCells", "cells")), "vector": ((1, 0), ("BadNumber", "vector")),
         "sheets": ([SHEET, SHEET], ("BadSheet", "sheets")), "lines": (["put a square 1 :"], ("BadDesk", "lines")),
         "overlay": (Overlay(0, (1, 0), 0, (1, 0)), ("BadPaper", "overlay"))}
# Of numbers: the error for a value that is none there, told with the value or with the parameter's name.
NUMBERS = {"edge": ("NoEdge", None), "other_edge": ("NoEdge", None), "corner": ("NoSide", None), "side": ("NoSide", None),
           "number": ("BadNumber", "number"), "seam": ("BadNumber", "seam"), "faces": ("BadNumber", "faces"), "square": ("BadNumber", "square"),
           "a": ("BadNumber", "a"), "b": ("BadNumber", "b"), "c": ("BadNumber", "c"), "many": ("BadNumber", "many")}
TWO = {"bodies": (BODY, "BadBody"), "sheets": (SHEET, "BadSheet"), "nestings": (NESTING, "BadNesting"), "desks": (Desk(), "BadDesk"),
       "vectors": ((1, 0), "BadNumber"), "edges": (0, "NoEdge"), "places": (0, "NoPlace")}
PAIRS = {"alike_by_faces": "bodies", "shows_alike": "bodies", "laid_on": "bodies", "places_on": "bodies", "in_truth": "bodies", "shows_truth": "bodies",
         "common_sheet": "bodies", "common_codes": "bodies", "shows_common": "bodies", "joined": "sheets", "rings": "nestings",
         "least_exchanges": "nestings", "way": "nestings", "shows_way": "nestings", "parting": "desks", "merged": "desks", "product": "vectors",
         "times": "vectors", "quotient": "vectors", "exchanged": "edges", "road": "places", "shows_road": "places"}
# Where no error is told, or any value may be passed.
FREE = ("value", "values", "mirrored")
# What would be a right number there.
RIGHT_NUMBERS = {"many": 4}


def parameters():
    """Each function, with what may be passed for each of its parameters, and the error of what may not, None for any value."""
    for module_name, rows in FUNCTIONS.items():
        module = importlib.import_module("rimsewn." + module_name)
        for row in rows:
            function = getattr(module, row.partition("(")[0])
            if module_name in ("checks", "papers"):
                continue
            yield function, [(name, *parameter(function.__name__, name)) for name in inspect.signature(function).parameters]


def parameter(function, name):
    if name in FREE:
        return None, None
    if name in ("one", "other") and function in PAIRS:
        right, error = TWO[PAIRS[function]]
        if error in ("NoEdge", "NoPlace"):
            return (right if name == "one" else 2), (error, None)
        return right, (error, name)
    if name in NUMBERS:
        return RIGHT_NUMBERS.get(name, 1), NUMBERS[name]
    return KNOWN[name]


class OrderTest(unittest.TestCase):
    def test_parameters_are_refused_in_their_order(self):
        asked = 0
        for function, told in parameters():
            for at, (name, _, error) in enumerate(told):
                if error is None:
                    continue
                for value in ODD_VALUES:
                    if is_right(value, name, error):
                        continue
                    wanted = error if None not in error else (error[0], value)
                    # Whatever comes behind, the first one that is none is told.
                    for behind in (None, object(), -1):
                        args = [right for _, right, _ in told[:at]] + [value] + [behind] * (len(told) - at - 1)
                        self.assertEqual(raised(function, *args), wanted, (function.__name__, name, value))
                        asked += 1
        self.assertGreater(asked, 5000)


def is_right(value, name, error):
    """Whether an odd value may be passed there after all."""
    if name in NUMBERS or error[0] in ("NoEdge", "NoPlace"):
        return isinstance(value, int) and not isinstance(value, bool) and (value >= 0 or name == "many")
    if name == "vector" or error[0] == "BadNumber":
        return value == (0, 1) and isinstance(value, tuple)
    return name == "lines" and value in ([], ())


if __name__ == "__main__":
    unittest.main()
