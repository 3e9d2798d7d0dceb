"""The examples of the document, as it tells them."""

import importlib
import pathlib
import unittest

from rimsewn import errors
from rimsewn.papers import fixed

# In this one the document prints a list where its words tell a tuple; the words are kept.
PRINTED_AS_LIST = "met_words(book)[:2]"
EXAMPLES = pathlib.Path(__file__).resolve().parent / "examples.txt"


def examples():
    """The triples of a section, what is asked, and what is told behind it; a section begins with a triple of its name."""
    section, asked, told = None, None, []
    for line in EXAMPLES.read_text().splitlines() + ["# end"]:
        if line.startswith(("# ", ">>> ")):
            if asked is not None:
                yield section, asked, "\n".join(told)
            asked, told = (line[4:], []) if line.startswith(">>> ") else (None, [])
            if line.startswith("# ") and line != "# end":
                section = line[2:]
                yield section, None, None
        else:
            told.append(line)


def told_of(value):
    """The class and the fields of an error, all the way in; any other value as it is."""
    if not isinstance(value, errors.SewError):
        return value
    return type(value), {name: told_of(field) for name, field in vars(value).items()}


class ExamplesTest(unittest.TestCase):
    def ask(self, names, asked, told):
        if not told:
            exec(asked, names)
        elif told.startswith("raises "):
            wanted = told[len("raises "):]
            with self.assertRaises(errors.SewError) as caught:
                eval(asked, names)
            error = caught.exception
            if "(" not in wanted:
                self.assertEqual(type(error).__name__, wanted)
                return
            expected = eval(wanted, dict(vars(errors)))
            self.assertEqual(told_of(error), told_of(expected), asked)
        elif PRINTED_AS_LIST in asked:
            self.assertEqual(fixed(eval(asked, names)), fixed(eval(told)), asked)
        else:
            self.assertEqual(repr(eval(asked, names)), repr(eval(told)), asked)

    def test_examples(self):
        names = {}
        many = 0
        for section, asked, told in examples():
            if asked is None:
                module = importlib.import_module("rimsewn." + section)
                names.update({name: value for name, value in vars(module).items()
                              if getattr(value, "__module__", None) == module.__name__})
                continue
            many += 1
            with self.subTest(asked=asked):
                self.ask(names, asked, told)
        self.assertGreaterEqual(many, 150)


if __name__ == "__main__":
    unittest.main()
