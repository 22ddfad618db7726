"""Names, arguments and defaults, and in which file each function and class is defined."""

import inspect
import unittest

from budwright import errors, garden, kinds, maps, pagelines, pages, polygons, sums, tables, walks, webs

SUMS = {"letter": "(width, number, *, by=1)", "constant": "(width, many)", "read_sum": "(text, *, width)"}
SUM_METHODS = {
    "__init__": "(self, width, terms=())", "terms": "(self)", "plus": "(self, other)", "minus": "(self, other)",
    "times": "(self, other)", "raised": "(self, many)", "shared": "(self, other)", "worth": "(self, parts)",
    "least": "(self, numbers)", "greatest": "(self, numbers)", "lowest": "(self)", "with_ones": "(self, places)",
    "widened": "(self, width)", "__len__": "(self)", "__eq__": "(self, other)", "__str__": "(self)",
    "__repr__": "(self)",
}
TABLES = {
    "barred": "(table)", "weights": "(table)", "turned": "(table, place)", "reordered": "(table, order)",
    "beside": "(one, other)", "principal": "(table)", "opposite": "(table)", "table_text": "(table)",
    "read_table": "(text)",
}
WEB_METHODS = {
    "__init__": "(self, table)", "exchange": "(self, place)", "walk": "(self, places)", "table": "(self)",
    "weights": "(self)", "places": "(self)", "bud": "(self, place)", "buds": "(self)", "hues": "(self)",
    "leans": "(self)", "done": "(self)", "hold": "(self, place)", "release": "(self, place)", "held": "(self)",
    "reorder": "(self, order)", "alike": "(self, other)", "twin": "(self)", "__len__": "(self)",
    "__eq__": "(self, other)", "__str__": "(self)", "__repr__": "(self)",
}
WALKS = {
    "reduced": "(walk)", "inner": "(table, walk)", "parted": "(table, lean, inner)", "walked": "(table, walk, parts)",
    "leaned": "(table, walk, numbers, *, greatest=False)", "frieze": "(table, rounds)", "belt": "(table, *, most=20)",
    "ring_length": "(table, one, other)",
}
KINDS = {"kind": "(table)", "endless_holds": "(table, walk, one, other)"}
MAPS = {"map_holds": "(table, rows)"}
MAP_METHODS = {
    "__init__": "(self, table)", "rows": "(self)", "buds": "(self)", "number_of": "(self, leans)",
    "way": "(self, one, other)", "walk_to": "(self, number)", "__len__": "(self)", "__repr__": "(self)",
}
POLYGONS = {
    "cuts": "(corners)", "is_cut": "(corners, chords)", "cut_table": "(corners, chords)",
    "flipped": "(corners, chords, chord)", "flip": "(corners, chords, chord)", "lengths": "(corners, chords, parts)",
}
GARDEN_METHODS = {
    "__init__": "(self, *, limit=8)", "sow": "(self, name, table)", "grow": "(self, name, place)",
    "walk": "(self, name, places)", "hold": "(self, name, place)", "release": "(self, name, place)",
    "reorder": "(self, name, order)", "graft": "(self, name, one, other)", "uproot": "(self, name)",
    "do": "(self, deed)", "undo": "(self)", "redo": "(self)", "done": "(self)", "ask": "(self, name, question)",
    "unask": "(self, name)", "asks": "(self)", "news": "(self)", "web": "(self, name)", "names": "(self)",
    "twin": "(self)", "__len__": "(self)", "__eq__": "(self, other)", "__repr__": "(self)", "__str__": "(self)",
}
PAGELINES = {"deed_text": "(deed)"}
PAGES = {"read_deed": "(text)", "page": "(garden)", "read_page": "(text)"}
ERRORS = (
    "BudError", "BadSum", "BadTable", "Uneven", "Great", "Held", "NotHeld", "BadOrder", "BadCut", "Mixed", "Endless",
    "BadName", "Taken", "Full", "BadAsk", "BadDeed", "BadText", "NoPart", "NoPlace", "Lacking", "NoWeb", "NoAsk",
    "NothingLeft",
)


class InterfaceTest(unittest.TestCase):
    def check_functions(self, module, wanted):
        for name, signature in wanted.items():
            with self.subTest(name):
                function = getattr(module, name)
                self.assertEqual(str(inspect.signature(function)), signature)
                self.assertEqual(function.__module__, module.__name__)

    def check_methods(self, module, name, wanted):
        owner = getattr(module, name)
        self.assertEqual(owner.__module__, module.__name__)
        for method, signature in wanted.items():
            with self.subTest(method):
                self.assertIn(method, vars(owner))
                self.assertEqual(str(inspect.signature(vars(owner)[method])), signature)

    def test_functions(self):
        self.check_functions(sums, SUMS)
        self.check_functions(tables, TABLES)
        self.check_functions(walks, WALKS)
        self.check_functions(kinds, KINDS)
        self.check_functions(maps, MAPS)
        self.check_functions(polygons, POLYGONS)
        self.check_functions(pagelines, PAGELINES)
        self.check_functions(pages, PAGES)

    def test_methods_stand_in_the_class_itself(self):
        self.check_methods(sums, "Sum", SUM_METHODS)
        self.check_methods(webs, "Web", WEB_METHODS)
        self.check_methods(maps, "WebMap", MAP_METHODS)
        self.check_methods(garden, "Garden", GARDEN_METHODS)

    def test_refusals(self):
        for name in ERRORS:
            self.assertEqual(getattr(errors, name).__module__, "budwright.errors")

    def test_bounds(self):
        self.assertEqual(sums.WIDE, 400)
        self.assertEqual((tables.MOST_TIE, tables.MOST_BUDS, tables.MOST_ROOTS), (50, 4, 4))
        self.assertEqual((webs.MOST_TERMS, webs.MOST_WALK), (100, 60))
        self.assertEqual((garden.MOST_WEBS, garden.MOST_ASKS), (8, 6))


if __name__ == "__main__":
    unittest.main()
