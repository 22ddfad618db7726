"""The refusals: words, fields, and what each stands under."""

import unittest

from budwright import errors

PLAIN = {
    "BadSum": "bad sum", "BadTable": "bad table", "Great": "great", "BadOrder": "bad order",
    "BadCut": "bad cut", "Mixed": "mixed", "BadName": "bad name", "BadAsk": "bad ask", "BadDeed": "bad deed",
}
FIELDED = {
    "Uneven": ("uneven", {"ring": (0, 1, 2)}),
    "Held": ("held", {"place": 2}),
    "NotHeld": ("not held", {"place": 3}),
    "Endless": ("endless", {"steps": (0, 1, 0), "one": 1, "other": 2}),
    "Taken": ("taken", {"name": "oak"}),
    "Full": ("full", {"most": 4}),
    "BadText": ("bad text", {"at": 7}),
}
APART = {
    "NoPart": (ZeroDivisionError, "no part", {}),
    "NoPlace": (IndexError, "no place", {"place": -1}),
    "NoWeb": (errors.Lacking, "no web", {"name": "elm"}),
    "NoAsk": (errors.Lacking, "no ask", {"name": "ash"}),
    "NothingLeft": (RuntimeError, "nothing left", {}),
}


class ErrorsTest(unittest.TestCase):
    def check_fields(self, name, word, fields):
        error = getattr(errors, name)(*fields.values())
        self.assertEqual(error.word, word)
        self.assertIsInstance(error.word, str)
        self.assertEqual({field: getattr(error, field) for field in fields}, fields)
        with self.assertRaises(getattr(errors, name)):
            raise error

    def test_plain_refusals_have_their_word_and_stand_straight_under_bud_error(self):
        for name, word in PLAIN.items():
            with self.subTest(name):
                self.check_fields(name, word, {})
                self.assertEqual(getattr(errors, name).__bases__, (errors.BudError,))

    def test_refusals_with_fields_take_them_by_place(self):
        for name, (word, fields) in FIELDED.items():
            with self.subTest(name):
                self.check_fields(name, word, fields)
                self.assertEqual(getattr(errors, name).__bases__, (errors.BudError,))

    def test_refusals_that_stand_under_other_errors(self):
        for name, (base, word, fields) in APART.items():
            with self.subTest(name):
                self.check_fields(name, word, fields)
                self.assertEqual(getattr(errors, name).__bases__, (base,))
                self.assertFalse(issubclass(getattr(errors, name), errors.BudError))

    def test_bases(self):
        self.assertEqual(errors.BudError.__bases__, (ValueError,))
        self.assertEqual(errors.Lacking.__bases__, (LookupError,))

    def test_bud_error_has_its_word(self):
        self.assertEqual(errors.BudError("odd").word, "odd")

    def test_there_are_no_others(self):
        found = {name for name, thing in vars(errors).items() if isinstance(thing, type)}
        self.assertEqual(found, {"BudError", "Lacking", *PLAIN, *FIELDED, *APART})


if __name__ == "__main__":
    unittest.main()
