"""Errors: their fields, and what is below what."""

import unittest

from rimsewn import errors

WITH_PART = """BadKind BadSkin BadSheet BadCells BadRim BadNesting BadSaying BadBook BadBody BadCut BadNumber
BadPaper BadDesk Misfit""".split()
BELOW_MISSING = "NoSide NoFace NoEdge NoCorner NoPlace NoFact NoName".split()
FIELDS = {"Missing": ["value"], "Twice": ["value"], "Crossing": ["one", "other"], "TooMuch": ["corner"],
          "Impossible": ["paper"], "TooMany": ["what", "most"], "Nothing": [], "BadText": ["line", "word"],
          "BadLine": ["line", "error"]}
FIELDS.update({name: ["part"] for name in WITH_PART})
FIELDS.update({name: ["value"] for name in BELOW_MISSING})


class ErrorsTest(unittest.TestCase):
    def test_fields_by_place_and_by_name(self):
        for name, names in FIELDS.items():
            made = getattr(errors, name)
            for value in (None, 0, "x", [1, [2]], {}, ValueError("y"), object()):
                by_place = made(*[value for _ in names])
                by_name = made(**{field: value for field in names})
                for error in (by_place, by_name):
                    self.assertEqual(sorted(vars(error)), sorted(names))
                    for field in names:
                        self.assertIs(getattr(error, field), value)

    def test_fields_keep_their_order(self):
        for name, names in FIELDS.items():
            error = getattr(errors, name)(*range(len(names)))
            self.assertEqual([getattr(error, field) for field in names], list(range(len(names))))

    def test_what_is_below_what(self):
        self.assertEqual(errors.SewError.__bases__, (ValueError,))
        for name in FIELDS:
            base = errors.Missing if name in BELOW_MISSING else errors.SewError
            self.assertEqual(getattr(errors, name).__bases__, (base,))
            self.assertEqual(getattr(errors, name).__module__, "rimsewn.errors")

    def test_all_of_them_are_told(self):
        found = {name for name, value in vars(errors).items() if isinstance(value, type)}
        self.assertEqual(found, set(FIELDS) | {"SewError"})


if __name__ == "__main__":
    unittest.main()
