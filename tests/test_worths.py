"""Worths of sums at parts, their least and greatest, and letters set or added."""

import random
import unittest
from fractions import Fraction

from budwright.errors import BadSum, NoPart
from budwright.sums import Sum, constant, letter

from test_sums import some_sum


def slow_worth(one, parts):
    total = Fraction(0)
    for powers, count in one.terms():
        product = Fraction(count)
        for power, part in zip(powers, parts):
            product *= Fraction(*part) ** power
        total += product
    return (total.numerator, total.denominator)


class WorthTest(unittest.TestCase):
    def test_worth(self):
        one = Sum(2, [((1, -1), 3), ((0, 0), -1)])
        self.assertEqual(one.worth([(2, 3), (-4, 5)]), (-7, 2))
        self.assertEqual(one.worth([(1, 3), (1, 1)]), (0, 1))
        self.assertEqual(one.worth(parts=[(0, 1), (1, 2)]), (-1, 1))
        self.assertEqual(constant(0, -5).worth([]), (-5, 1))

    def test_worth_is_as_reckoned_by_hand(self):
        source = random.Random(21)
        for _ in range(200):
            width = source.randint(0, 4)
            one = some_sum(source, width, 5, 6)
            parts = [Fraction(source.choice((-1, 1)) * source.randint(1, 60), source.randint(1, 60))
                     for _ in range(width)]
            parts = [(part.numerator, part.denominator) for part in parts]
            self.assertEqual(one.worth(parts), slow_worth(one, parts))

    def test_far_powers_and_parts_of_thirty_figures(self):
        one = Sum(2, [((1000, -1000), 10 ** 30 - 1), ((-1000, 3), -1)])
        for parts in ([(10 ** 30 - 1, 10 ** 29 + 7), (-2, 3)], [(2, 1), (1, 2)], [(6, 35), (-10, 21)]):
            parts = [(part.numerator, part.denominator) for part in [Fraction(*part) for part in parts]]
            self.assertEqual(one.worth(parts), slow_worth(one, parts))

    def test_worth_of_nought(self):
        self.assertEqual(Sum(2).worth([(0, 1), (5, 3)]), (0, 1))
        self.assertEqual(Sum(0).worth([]), (0, 1))

    def test_no_part_where_a_letter_worth_nought_has_a_power_below_nought(self):
        one = Sum(2, [((-1, 0), 1), ((0, 2), 1)])
        with self.assertRaises(NoPart):
            one.worth([(0, 1), (1, 1)])
        self.assertEqual(one.worth([(1, 2), (0, 1)]), (2, 1))
        with self.assertRaises(NoPart):
            letter(2, 0, by=5).plus(letter(2, 1, by=-1)).worth([(0, 1), (0, 1)])
        self.assertEqual(letter(1, 0, by=1000).plus(constant(1, 4)).worth([(0, 1)]), (4, 1))

    def test_another_length_goes_first(self):
        for one in (Sum(2), Sum(2, [((-1, 0), 1)])):
            for parts in ([], [(0, 1)], [(0, 1)] * 3):
                with self.assertRaises(BadSum):
                    one.worth(parts)

    def test_what_is_handed_in_stays(self):
        parts, numbers = [(1, 2), (3, 1)], [4, -5]
        one = Sum(2, [((2, 1), 1), ((0, -1), 2)])
        one.worth(parts), one.least(numbers), one.greatest(numbers)
        self.assertEqual((parts, numbers), ([(1, 2), (3, 1)], [4, -5]))


class LeastTest(unittest.TestCase):
    def test_least_and_greatest(self):
        one = Sum(2, [((2, -1), 7), ((0, 3), -9), ((-1, 0), 1)])
        self.assertEqual((one.least([1, 1]), one.greatest([1, 1])), (-1, 3))
        self.assertEqual((one.least([-5, 2]), one.greatest([-5, 2])), (-12, 6))
        self.assertEqual((one.least([0, 0]), one.greatest([0, 0])), (0, 0))
        self.assertEqual(one.greatest([10 ** 90, 0]), 2 * 10 ** 90)
        self.assertEqual((constant(0, 5).least([]), constant(0, 5).greatest([])), (0, 0))

    def test_none_of_nought(self):
        self.assertIsNone(Sum(2).least([1, 2]))
        self.assertIsNone(Sum(2).greatest(numbers=[1, 2]))

    def test_another_length(self):
        for one in (Sum(2), letter(2, 0)):
            for numbers in ([], [1], [1, 2, 3]):
                for deed in (one.least, one.greatest):
                    with self.assertRaises(BadSum):
                        deed(numbers)


class LettersTest(unittest.TestCase):
    def test_lowest(self):
        self.assertEqual(Sum(3, [((2, -1, 0), 1), ((-7, 4, 1), 1)]).lowest(), (-7, -1, 0))
        self.assertEqual(letter(2, 1, by=3).lowest(), (0, 3))
        self.assertEqual(constant(0, 1).lowest(), ())
        self.assertIsNone(Sum(3).lowest())
        self.assertIsNone(Sum(0).lowest())

    def test_with_ones(self):
        one = Sum(3, [((2, -1, 0), 1), ((2, 4, 1), 5), ((0, 3, 0), -6)])
        self.assertEqual(one.with_ones((1,)), Sum(3, [((2, 0, 0), 1), ((2, 0, 1), 5), ((0, 0, 0), -6)]))
        self.assertEqual(one.with_ones((2, 1)), Sum(3, [((2, 0, 0), 6), ((0, 0, 0), -6)]))
        self.assertEqual(one.with_ones((2, 0, 1)), Sum(3))
        self.assertEqual(one.with_ones(places=()), one)
        self.assertEqual(Sum(3).with_ones((0,)), Sum(3))

    def test_widened(self):
        one = Sum(1, [((2,), 1), ((-1,), 5)])
        self.assertEqual(one.widened(3), Sum(3, [((2, 0, 0), 1), ((-1, 0, 0), 5)]))
        self.assertEqual(one.widened(width=1), one)
        self.assertEqual(Sum(0).widened(8), Sum(8))


if __name__ == "__main__":
    unittest.main()
