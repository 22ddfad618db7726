"""Names, arguments and defaults, and in which file each function and class is defined."""

import inspect
import unittest

from budwright import sums, tables

SUMS = {"letter": "(width, number, *, by=1)", "constant": "(width, many)", "read_sum": "(text, *, width)"}
SUM_METHODS = {
    "__init__": "(self, width, terms=())", "terms": "(self)", "plus": "(self, other)", "minus": "(self, other)",
    "times": "(self, other)", "raised": "(self, many)", "shared": "(self, other)", "worth": "(self, parts)",
    "least": "(self, numbers)", "greatest": "(self, numbers)", "lowest": "(self)", "with_ones": "(self, places)",
    "widened": "(self, width)", "__len__": "(self)", "__eq__": "(self, other)", "__str__": "(self)",
    "__repr__": "(self)",
}
TABLES = {
    "barred": "(table)", "weights": "(table)", "turned": "(table, place)", "reordered": "(table, order)",
    "beside": "(one, other)", "principal": "(table)", "opposite": "(table)", "table_text": "(table)",
    "read_table": "(text)",
}


class InterfaceTest(unittest.TestCase):
    def check_functions(self, module, wanted):
        for name, signature in wanted.items():
            with self.subTest(name):
                function = getattr(module, name)
                self.assertEqual(str(inspect.signature(function)), signature)
                self.assertEqual(function.__module__, module.__name__)

    def test_functions_of_sums(self):
        self.check_functions(sums, SUMS)

    def test_functions_of_tables(self):
        self.check_functions(tables, TABLES)

    def test_methods_of_sum_stand_in_the_class_itself(self):
        self.assertEqual(sums.Sum.__module__, "budwright.sums")
        for name, signature in SUM_METHODS.items():
            with self.subTest(name):
                self.assertIn(name, vars(sums.Sum))
                self.assertEqual(str(inspect.signature(vars(sums.Sum)[name])), signature)

    def test_bounds(self):
        self.assertEqual(sums.WIDE, 400)
        self.assertEqual((tables.MOST_TIE, tables.MOST_BUDS, tables.MOST_ROOTS), (50, 4, 4))


if __name__ == "__main__":
    unittest.main()
