"""The code in README.md runs, line by line, and gives what stands behind it where a value stands there."""

import pathlib
import re
import unittest

README = pathlib.Path(__file__).resolve().parent.parent / "README.md"


class ReadmeTest(unittest.TestCase):
    def test_code(self):
        names, checked = {}, 0
        for block in re.findall(r"```python\n(.*?)```", README.read_text(), re.DOTALL):
            for line in block.splitlines():
                code, _, told = line.partition("  #")
                try:
                    right = eval(told.strip().partition(": ")[0], {})
                except (SyntaxError, NameError):
                    exec(code, names)
                    continue
                # Lines that a desk is told are run just once.
                self.assertEqual(eval(code, names), right, line)
                checked += 1
        self.assertGreater(checked, 24)


if __name__ == "__main__":
    unittest.main()
