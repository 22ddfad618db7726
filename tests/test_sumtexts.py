"""How sums are written, and that just this is read."""

import random
import unittest

from budwright.errors import BadText
from budwright.sums import WIDE, Sum, constant, letter, read_sum

from test_sums import row, some_sum


class WritingTest(unittest.TestCase):
    def test_written(self):
        cases = (
            ("2a^2b^-1 - c + 3", 3, [((2, -1, 0), 2), ((0, 0, 1), -1), ((0, 0, 0), 3)]),
            ("-a", 1, [((1,), -1)]),
            ("-1", 1, [((0,), -1)]),
            ("1", 0, [((), 1)]),
            ("a - 1", 1, [((1,), 1), ((0,), -1)]),
            ("-10a^10 + 1 - 12a^-1", 1, [((10,), -10), ((0,), 1), ((-1,), -12)]),
            ("abcdefgh", 8, [((1,) * 8, 1)]),
            ("h^-1000", 8, [((0,) * 7 + (-1000,), 1)]),
            ("ac^2", 3, [((1, 0, 2), 1)]),
            ("0", 4, []),
        )
        for text, width, terms in cases:
            with self.subTest(text):
                self.assertEqual(str(Sum(width, terms)), text)
                self.assertEqual(read_sum(text, width=width), Sum(width, terms))

    def test_counts_of_thousands_of_figures_are_written(self):
        huge = constant(0, 10 ** 29 + 3).raised(50).raised(4)
        text = str(huge.times(constant(0, -1)))
        self.assertEqual(text[:10], "-100000000")
        value = 0
        for start in range(1, len(text), 100):
            piece = text[start:start + 100]
            value = value * 10 ** len(piece) + int(piece)
        self.assertEqual(value, (10 ** 29 + 3) ** 200)
        self.assertEqual(str(constant(0, 10 ** 64)), "1" + "0" * 64)
        self.assertEqual(str(constant(0, 10 ** 64 - 1)), "9" * 64)


class ReadingTest(unittest.TestCase):
    def refused(self, text, width):
        with self.subTest(text), self.assertRaises(BadText) as caught:
            read_sum(text, width=width)
        self.assertEqual(caught.exception.at, 0)

    def test_each_text_is_read_back(self):
        source = random.Random(31)
        for _ in range(200):
            width = source.randint(0, 8)
            one = some_sum(source, width, source.randint(0, 7))
            self.assertEqual(read_sum(str(one), width=width), one)

    def test_wide_sums_are_read(self):
        self.assertEqual(read_sum(str(row(-100, WIDE)), width=1), row(-100, WIDE))
        self.refused(str(row(-100, WIDE)) + " + a^-101", 1)

    def test_too_many_products_that_are_alike(self):
        self.refused(" + ".join(["a"] * (WIDE + 1)), 1)

    def test_figures(self):
        self.assertEqual(read_sum("9" * 30, width=0), constant(0, 10 ** 30 - 1))
        self.assertEqual(read_sum("-" + "9" * 30 + "a", width=1), Sum(1, [((1,), 1 - 10 ** 30)]))
        self.assertEqual(read_sum("a^9999 + a^-9999", width=1), letter(1, 0, by=9999).plus(letter(1, 0, by=-9999)))
        for text in ("1" + "0" * 30, "-1" + "0" * 30 + "a", "a^10000", "a^-10000", "9" * 5000, "a^" + "9" * 5000):
            self.refused(text, 1)

    def test_other_texts_are_refused(self):
        for text in (
            "", " ", "-", "+", "+a", "--a", "- a", "-0", "00", "+0", "0a", "1a", "-1a", "01", "02a", "a^1", "a^0",
            "a^01", "a^-0", "a^", "a^-", "a^+2", "a^--2", "^2", "a^ 2", "a^2^3", "aa", "ba", "a2", "a*b", "2 a", "A",
            "a +", "a + ", " a", "a ", "a + + b", "a  + b", "a+b", "a +b", "a+ b", "a + -b", "a - -b", "a = b", "a + 0",
            "a - 0", "0 + a", "b + a", "1 + a", "a + a", "a - a", "a + b + a", "ab + a^2", "a + a^2", "1 + 1", "c",
            "a\n", "a\t+\tb", "2.0", "1_0", "\u00b2", "a^\u0662", "\u0662", "a + b +", "a b", "a - b - ", "x",
        ):
            self.refused(text, 2)

    def test_letters_beyond_the_width(self):
        self.assertEqual(read_sum("c", width=3), letter(3, 2))
        self.refused("c", 2)
        self.refused("a", 0)
        self.refused("i", 8)

    def test_width_is_handed_in_by_name(self):
        with self.assertRaises(TypeError):
            read_sum("a", 1)


if __name__ == "__main__":
    unittest.main()
