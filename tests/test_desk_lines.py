"""Lines of a desk: each line of both tables, each word bent."""

import unittest

import test_nestings
import test_sayings
import test_sheets
from plain import ODD_VALUES, bent_texts, check_no_texts, check_reading, raised, whole_number
from rimsewn.desk_lines import ASKS, DEEDS, read_line
from rimsewn.nestings import Nesting
from rimsewn.sayings import Bears, Joined, Meet, Places, Saying, Tips
from rimsewn.sheets import Sheet

# What stands behind the first word, as the tables of the document tell it.
SHAPES = {"put": "NEW SHEET", "take": "NAME", "sew": "NEW NESTING", "open": "NAME NEW N ..", "drop": "NAME", "tell": "SAYING", "strike": "N ..",
          "names": "", "hand": "", "show": "NAME", "amounts": "", "facts": "", "fact": "N", "book": "", "try": "SAYING", "many": "",
          "nth": "N", "kinds": "", "word": "SAYING", "clash": "", "tally": "NAME", "alike": "NAME OTHER", "road": "NAME N N",
          "plate": "NAME", "fewest": "NAME"}
TEXTS = {"SHEET": test_sheets, "NESTING": test_nestings, "SAYING": test_sayings}
SIGNS = "abcdefghijklmnopqrstuvwxyz0123456789"
LINES = ("put a square 1 :", "put dom square 2 : 1 7", "put slit2 square 4 : 1 7 / 6 8 / 11 13", "take dom", "sew pad 0-5 1-2 3-4", "open pad flat 0 2 3",
         "open a b 4", "drop a1", "tell joined 0 5", "tell not meet 1 4", "tell places 3 0 1", "strike 0", "strike 2 0 1", "names", "hand", "show a",
         "amounts", "facts", "fact 3", "book", "try tips 0 4", "try not bears 1 2 3", "many", "nth 0", "kinds", "word meet 0 2", "clash", "tally pad",
         "alike one other", "road a 0 1", "plate a", "fewest z9")
BENT = ("", "0", "1", "7", "a", "b1", "A", "1a", "-1", "+1", "01", "x y", "square", ":", "/", "0-1", "not", "tips", "take", "put", "names", "many",
        "a" * 12, "a" * 13, "9" * 60, "9" * 61, "a\n", "a_b", "-", "\t")


def is_plain_name(word):
    return 1 <= len(word) <= 12 and all(sign in SIGNS for sign in word) and word[0] not in "0123456789"


def parts_of(words):
    """For each word behind the first what it has to be: a part of a line, None for a word too many; and the text part, if any, with its index."""
    shape = SHAPES[words[0]].split()
    if shape and shape[-1] in TEXTS:
        return shape[:-1] + [shape[-1]] * (len(words) - len(shape)), (shape[-1], len(shape))
    if shape[-1:] == [".."]:
        return shape[:-1] + ["N"] * (len(words) - len(shape)), None
    return shape + [None] * len(words), None


def can_stand(words):
    """Whether the last word can stand behind the others, which can."""
    if len(words) == 1:
        return words[0] in SHAPES
    parts, text = parts_of(words)
    part, word = parts[len(words) - 2], words[-1]
    if part in ("NAME", "NEW", "OTHER"):
        return is_plain_name(word)
    if part == "N":
        return whole_number(word) is not None
    if part in TEXTS:
        return TEXTS[part].can_stand(words[text[1]:])
    return False


def lacks(words):
    """Whether a word is missing behind words that can stand."""
    shape = SHAPES[words[0]].replace(" ..", "").split()
    if len(words) <= len(shape):
        return True
    text = parts_of(words)[1]
    return text is not None and TEXTS[text[0]].lacks(words[text[1]:])


def is_value(words):
    """Whether the whole text makes a value."""
    return words[0] != "put" or test_sheets.makes_a_sheet(words[2:])


class Line:
    """What is read of a line; its str is the line again."""

    def __init__(self, told):
        self.told = told

    @staticmethod
    def read(line):
        return Line(read_line(line))

    def __str__(self):
        return " ".join(str(part) for part in self.told)


class LinesTest(unittest.TestCase):
    def test_first_words(self):
        self.assertEqual(DEEDS, ("put", "take", "sew", "open", "drop", "tell", "strike"))
        self.assertEqual(ASKS, ("names", "hand", "show", "amounts", "facts", "fact", "book", "try", "many", "nth", "kinds", "word", "clash",
                                "tally", "alike", "road", "plate", "fewest"))
        self.assertEqual(list(DEEDS + ASKS), list(SHAPES))
        self.assertEqual({line.split(" ")[0] for line in LINES}, set(SHAPES))

    def test_what_is_read(self):
        for line, told in (("put dom square 2 : 1 7", ("put", "dom", Sheet.read("square 2 : 1 7"))), ("take dom", ("take", "dom")),
                           ("sew pad 0-5 1-2 3-4", ("sew", "pad", Nesting.read("0-5 1-2 3-4"))), ("open pad flat 2 0 3", ("open", "pad", "flat", 2, 0, 3)),
                           ("drop a", ("drop", "a")), ("tell not meet 1 4", ("tell", ~Meet(1, 4))), ("strike 0 2", ("strike", 0, 2)),
                           ("strike 5 5", ("strike", 5, 5)), ("names", ("names",)), ("fact 12", ("fact", 12)), ("try tips 0 4", ("try", Tips(0, 4))),
                           ("word bears 0 1 2", ("word", Bears(0, 1, 2))), ("nth 0", ("nth", 0)), ("tell joined 7 3", ("tell", Joined(7, 3))),
                           ("tell places 5 0 9", ("tell", Places(5, 0, 9))), ("alike a a", ("alike", "a", "a")), ("road put 3 1", ("road", "put", 3, 1)),
                           ("show square", ("show", "square")), ("fewest not", ("fewest", "not"))):
            found = read_line(line)
            self.assertIsInstance(found, tuple)
            self.assertEqual(found, told)
            self.assertEqual([type(part) for part in found], [type(part) for part in told])

    def test_each_word_bent(self):
        for line in LINES:
            check_reading(self, Line.read, bent_texts(line, BENT) + [line], can_stand, lacks, is_value)

    def test_words_exchanged(self):
        texts = []
        for line in LINES:
            words = line.split(" ")
            for one in range(len(words)):
                for other in range(one):
                    bent = list(words)
                    bent[one], bent[other] = words[other], words[one]
                    texts.append(" ".join(bent))
        check_reading(self, Line.read, texts, can_stand, lacks, is_value)

    def test_first_words_exchanged(self):
        texts = sorted({" ".join([first] + line.split(" ")[1:]) for line in LINES for first in SHAPES} | set(SHAPES))
        check_reading(self, Line.read, texts + ["", " ", "Put a square 1 :", "puts a", "name", "PUT", "take  a", " take a", "take a ", "road a 0 1 2"],
                      can_stand, lacks, is_value)

    def test_numbers_of_60_digits_and_61(self):
        most = "9" * 60
        for line, at in (("fact {}", 1), ("nth {}", 1), ("strike {}", 1), ("strike 0 {}", 2), ("open a b {}", 3), ("open a b 0 {}", 4),
                         ("road a {} 0", 2), ("road a 0 {}", 3), ("tell tips 0 {}", 3), ("try tips 0 {}", 3), ("word meet 0 {}", 3)):
            self.assertIsNone(raised(read_line, line.format(most)))
            self.assertEqual(raised(read_line, line.format(most + "9")), ("BadText", 0, at))
        self.assertEqual(read_line("fact " + most), ("fact", int(most)))

    def test_names_of_12_characters_and_13(self):
        for line, at in (("take {}", 1), ("put {} square 1 :", 1), ("open {} b 0", 1), ("open b {} 0", 2), ("alike b {}", 2), ("road {} 0 1", 1)):
            for name in ("a", "z" * 12, "a23456789012"):
                self.assertIsNone(raised(read_line, line.format(name)))
            for name in ("a" * 13, "A", "1a", "a-b", "", "a.", "ab\n"):
                self.assertEqual(raised(read_line, line.format(name)), ("BadText", 0, at))

    def test_texts_go_to_the_end_of_the_line(self):
        for line, word in (("put a", 2), ("put a ", 2), ("put a square", 3), ("put a square 1", 4), ("put a square 1 : 0 1", 6), ("put a square 2 :", 4),
                           ("put a square 1 : names", 5), ("put a square 25 :", 3), ("put a square 2 : 1 7 /", 8), ("sew b", 2), ("sew b 0-3 1-4", 3),
                           ("sew b 0-1 2-5", 4), ("sew b 0-1 names", 3), ("tell", 1), ("tell not", 2), ("tell joined 0 0", 3), ("tell joined 0 1 2", 4),
                           ("try bears 2 3 1", 4), ("word places 6 0 0", 2), ("word not not tips 0 1", 2), ("tell joined", 2), ("try", 1)):
            self.assertEqual(raised(read_line, line), ("BadText", 0, word), line)

    def test_what_is_no_string(self):
        check_no_texts(self, read_line)
        for value in ODD_VALUES:
            if not isinstance(value, str):
                self.assertEqual(raised(read_line, value), ("BadText", 0, 0))

    def test_long_lines(self):
        self.assertEqual(raised(read_line, "strike " + " ".join(["1"] * 40000)), None)
        self.assertEqual(raised(read_line, "x" * 100000), ("BadText", 0, 0))
        self.assertEqual(raised(read_line, "put a " + "9" * 90000), ("BadText", 0, 2))
        self.assertEqual(raised(read_line, "strike " + "1 " * 40000), ("BadText", 0, 40001))


if __name__ == "__main__":
    unittest.main()
