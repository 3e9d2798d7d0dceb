"""The examples of the document, as it tells them."""

import importlib
import pathlib
import unittest

from rimsewn import errors

EXAMPLES = pathlib.Path(__file__).resolve().parent / "examples.txt"


def examples():
    """The triples of a section, what is asked, and what is told behind it."""
    section, asked, told = None, None, []
    for line in EXAMPLES.read_text().splitlines() + ["# end"]:
        if line.startswith(("# ", ">>> ")):
            if asked is not None:
                yield section, asked, "\n".join(told)
            asked, told = (line[4:], []) if line.startswith(">>> ") else (None, [])
            section = line[2:] if line.startswith("# ") else section
        else:
            told.append(line)


class ExamplesTest(unittest.TestCase):
    def ask(self, names, asked, told):
        if not told:
            exec(asked, names)
        elif told.startswith("raises "):
            wanted = told[len("raises "):]
            with self.assertRaises(errors.SewError) as caught:
                eval(asked, names)
            error = caught.exception
            if "(" not in wanted:
                self.assertEqual(type(error).__name__, wanted)
                return
            expected = eval(wanted, dict(vars(errors)))
            self.assertIs(type(error), type(expected))
            self.assertEqual(vars(error), vars(expected), asked)
        else:
            self.assertEqual(repr(eval(asked, names)), repr(eval(told)), asked)

    def test_examples(self):
        names = {}
        seen = set()
        for section, asked, told in examples():
            if section not in seen:
                seen.add(section)
                module = importlib.import_module("rimsewn." + section)
                names.update({name: value for name, value in vars(module).items()
                              if getattr(value, "__module__", None) == module.__name__})
            with self.subTest(asked=asked):
                self.ask(names, asked, told)
        self.assertGreaterEqual(len(seen), 16)


if __name__ == "__main__":
    unittest.main()
