"""Each name of the interface stands in its file, with its parameters, and each method in its class."""

import importlib
import inspect
import unittest

FUNCTIONS = {
    "checks": ["is_integer(value)", "is_within(value, least, most)", "is_kind(value)", "is_name(value)",
               "is_row(value)", "first_twice(values)"],
    "papers": ["fixed(value)"],
    "grids": ["sides_of(kind)", "full_of(kind)"],
    "places": ["round_from(skin, corner)", "places(skin)", "place_of(skin, corner)", "gathers(skin)", "rims(skin)",
               "pieces(skin)", "surplus(skin)"],
    "cells": ["sheet_of(kind, cells)", "laid(sheet)", "lies_flat(sheet)"],
    "finer": ["finer(skin)", "finer_sheet(sheet)"],
    "nestings": ["nestings(many)"],
    "sums": ["gathered(rim, nesting)", "is_sewing(rim, nesting)", "too_much(rim, nesting)", "kind_of(rim, nesting)",
             "tips_of(rim, nesting)"],
    "sewn": ["sew(rim)", "many_sewings(rim)", "sewing_at(rim, number)", "number_of(rim, nesting)", "sewings(rim)",
             "by_kinds(rim)"],
    "check_sewn": ["shows_sewn(rim, value)"],
    "answers": ["possible(book)", "word_of(book, saying)", "many(book)", "nth(book, number)",
                "number_in(book, nesting)", "kinds(book)"],
    "clashes": ["clash(book)"],
    "offers": ["offer(book, sayings)"],
    "pairtables": ["joined_words(book)", "met_words(book)"],
    "check_books": ["shows_possible(book, value)", "shows_word(book, saying, value)", "shows_clash(book, value)",
                    "shows_offer(book, sayings, value)"],
    "bodies": ["sewn(sheet, nesting)"],
    "codes": ["mates_from(body, side)", "code_of(body)", "first_form(body)", "alike_by_faces(one, other, mirrored=False)"],
    "turnings": ["turnings(body)", "mirrors(body)"],
    "listed": ["bodies_of(kind, faces)", "tallies_of(kind, faces)"],
    "check_bodies": ["shows_alike(one, other, mirrored, value)"],
    "vectors": ["square_of(kind, vector)", "product(kind, one, other)", "turned(kind, vector, many)",
                "flipped(kind, vector)", "times(kind, one, other)", "quotient(kind, one, other)", "vectors_of(kind, square)"],
    "walks": ["walked(body, corner, a, b)"],
    "roads": ["road(body, one, other)", "squares(body)", "farthest(body)"],
    "belts": ["belts(body)"],
    "check_walks": ["shows_walk(body, corner, a, b, value)", "shows_road(body, one, other, value)"],
    "slants": ["slanted(body, a, b)"],
    "overlays": ["laid_on(one, other, overlay, mirrored=False)", "places_on(one, other, overlay, mirrored=False)"],
    "truth": ["in_truth(one, other, mirrored=False)"],
    "check_truth": ["shows_truth(one, other, mirrored, value)"],
    "boxes": ["box(a, b, c)", "boxes_of(faces)"],
    "plates": ["doubled(sheet)", "plate(body)"],
    "named": ["named(body)"],
    "check_kinds": ["shows_plate(body, value)", "shows_named(body, value)"],
    "cuts": ["idle(cut)", "pared(cut)", "cuts(body)"],
    "opened": ["opened(cut)", "closing(cut)", "cut_of(sheet, nesting)"],
    "treecounts": ["spanning(body)", "hanging(body)", "spanning_with(body, seam)"],
    "fewest": ["fewest_cut(body)"],
    "check_cuts": ["shows_fewest(body, value)"],
    "made": ["code_of_sheet(sheet)", "made(sheet)", "makes(sheet, body)"],
    "common": ["sheets_of(body)", "common_sheet(one, other)", "common_codes(one, other)"],
    "several": ["joined(one, edge, other, other_edge)", "codes_of_all(sheets)"],
    "check_common": ["shows_makes(sheet, body, value)", "shows_common(one, other, value)"],
    "exchanges": ["exchanged(nesting, one, other)", "exchanges(nesting)", "rings(one, other)", "least_exchanges(one, other)",
                  "sewn_exchanges(rim, nesting)", "like_exchanges(rim, nesting)"],
    "ways": ["way(rim, one, other)", "classes(rim)"],
    "check_ways": ["shows_way(rim, one, other, value)"],
    "grown": ["widened(sheet, edge)", "lasting(sheet, nesting, edge)"],
    "desk_lines": ["read_line(line)"],
    "desk_deeds": ["changed(table, line)"],
    "desk_asks": ["answer_of(table, line)"],
    "stories": ["replay(lines)", "parting(one, other)", "merged(one, other)"],
}
CLASSES = {
    "papers": {"Paper": "(word, *parts)", "Denial": "(word, *parts)"},
    "skins": {"Skin": "(kind, faces, seams=())"},
    "sheets": {"Sheet": "(skin)"},
    "rims": {"Rim": "(kind, amounts)"},
    "nestings": {"Nesting": "(partners)"},
    "sewn": {"Sewing": "(partners)", "Unsewn": "(rows)"},
    "sayings": {"Saying": None, "Joined": "(one, other)", "Meet": "(one, other)", "Bears": "(corner, low, high)",
                "Tips": "(low, high)", "Places": "(amount, low, high)", "Not": "(saying)"},
    "books": {"Book": "(rim, facts=(), colours=None)"},
    "answers": {"Always": "(rows)", "Never": "(rows)", "Both": "(one, other)"},
    "clashes": {"Clash": "(numbers, rows, spared)"},
    "offers": {"Offer": "(number, counts)"},
    "bodies": {"Body": "(skin)"},
    "codes": {"Renaming": "(sides)", "Unlike": "(code, other)"},
    "walks": {"Came": "(place, corner, sides)", "Ended": "(place, part)"},
    "roads": {"Road": "(corner, a, b)"},
    "overlays": {"Overlay": "(corner, vector, other, its)", "Apart": "(corner, vector, failings)"},
    "plates": {"Plate": "(overlay)", "NoPlate": "(corner, vector, failings)"},
    "named": {"Boxed": "(sides, overlay)", "Other": "(aparts, noplate)"},
    "cuts": {"Cut": "(body, seams)"},
    "fewest": {"Fewest": "(seams, rows)"},
    "made": {"NotMade": "(codes)"},
    "common": {"Common": "(one, other, sides)", "NoCommon": "(ones, others)"},
    "ways": {"Way": "(rows)", "Parted": "(rows)"},
    "tables": {"Table": "(things=(), hand=None, facts=())"},
    "desk": {"Desk": "()"},
}
SAYING = ["holds(rim, nesting)", "__invert__()", "__eq__(other)", "__str__()"]
METHODS = {
    "Paper": ["__eq__(other)"],
    "Denial": ["__eq__(other)"],
    "Skin": ["mate(side)", "next(side)", "back(side)", "face(side)", "with_seams(seams)", "mirrored()",
             "__eq__(other)", "__str__()", "read(text)"],
    "Sheet": ["__len__()", "single(kind)", "put_on(edge)", "tucked(corner)", "taken(face)", "mirrored()",
              "__eq__(other)", "__str__()", "read(text)"],
    "Rim": ["__len__()", "of(sheet)", "turned(many)", "mirrored()", "__eq__(other)", "__str__()", "read(text)"],
    "Nesting": ["__len__()", "meets(one, other)", "turned(many)", "mirrored()", "__eq__(other)", "__str__()",
                "read(text)"],
    "Saying": SAYING + ["read(text)"],
    "Joined": SAYING, "Meet": SAYING, "Bears": SAYING, "Tips": SAYING, "Places": SAYING, "Not": SAYING,
    "Body": ["place_of(corner)", "mirrored()", "renamed(faces, shifts)", "__eq__(other)", "__str__()", "read(text)"],
    "Book": ["__len__()", "with_fact(saying)", "without(numbers)", "keeps(nesting)", "__eq__(other)"],
    "Cut": ["__len__()", "__eq__(other)"],
    "Table": ["thing(name)", "__eq__(other)"],
    "Desk": ["told(*lines)", "__call__(line)", "tried(*lines)", "undo()", "redo()", "twin()", "__len__()", "__contains__(value)", "__eq__(other)"],
}
STATIC = ("single", "of", "read")


def signature(function):
    """The parameters of a function, as they are written."""
    return str(inspect.signature(function))


class InterfaceTest(unittest.TestCase):
    def test_functions(self):
        for module_name, told in FUNCTIONS.items():
            module = importlib.import_module("rimsewn." + module_name)
            for row in told:
                function = getattr(module, row.partition("(")[0])
                self.assertTrue(inspect.isfunction(function))
                self.assertEqual(function.__module__, module.__name__)
                self.assertEqual(function.__name__ + signature(function), row)

    def test_classes(self):
        for module_name, told in CLASSES.items():
            module = importlib.import_module("rimsewn." + module_name)
            for name, parameters in told.items():
                found = getattr(module, name)
                self.assertTrue(inspect.isclass(found))
                self.assertEqual((found.__module__, found.__name__), (module.__name__, name))
                if parameters is not None:
                    self.assertEqual(signature(found), parameters)

    def test_methods_stand_in_their_classes(self):
        for module_name, told in CLASSES.items():
            module = importlib.import_module("rimsewn." + module_name)
            for name in told:
                for row in METHODS.get(name, []):
                    method = row.partition("(")[0]
                    held = vars(getattr(module, name))[method]
                    if method in STATIC:
                        self.assertIsInstance(held, staticmethod)
                        self.assertEqual(method + signature(held.__func__), row)
                    else:
                        self.assertEqual(method + signature(held).replace("(self, ", "(").replace("(self)", "()"), row)

    def test_attributes(self):
        from rimsewn.bodies import Body
        from rimsewn.cuts import Cut
        from rimsewn.desk import Desk
        from rimsewn.tables import Table
        cut = Cut(Body.read("square 1 : 0 1 / 2 3"), [0, 1])
        for value, names in ((cut, ("body", "seams", "reached", "ends")), (Table(), ("things", "hand", "facts", "names", "book")),
                             (Desk(), ("table", "story"))):
            for name in names:
                self.assertTrue(hasattr(value, name))

    def test_each_listed_module_is_here(self):
        told = [module for module in FUNCTIONS] + list(CLASSES) + ["errors", "desk_lines"]
        for module in told:
            importlib.import_module("rimsewn." + module)

    def test_kinds(self):
        from rimsewn.grids import KINDS
        self.assertEqual(KINDS, ("square", "triangle"))


if __name__ == "__main__":
    unittest.main()
