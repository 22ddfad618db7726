"""Which sums are shared by others, and what comes of it."""

import random
import unittest

from budwright.errors import BadSum, NoPart
from budwright.sums import Sum, constant, letter

from test_sums import row, some_sum


def geometric(many, by=1):
    """A pair whose quotient has so many products."""
    one = letter(1, 0, by=by * many).minus(constant(1, 1))
    return one, letter(1, 0, by=by).minus(constant(1, 1))


class SharingTest(unittest.TestCase):
    def test_product_of_two_sums(self):
        a, b = letter(2, 0), letter(2, 1)
        one, other = a.plus(b.raised(2)).minus(constant(2, 3)), a.minus(letter(2, 1, by=-1))
        self.assertEqual(one.times(other).shared(one), other)
        self.assertEqual(one.times(other).shared(other), one)

    def test_products_of_sums_with_powers_of_either_sign(self):
        source = random.Random(11)
        for _ in range(150):
            width = source.randint(0, 5)
            one = some_sum(source, width, source.randint(1, 8), 4)
            other = some_sum(source, width, source.randint(1, 8), 4)
            if len(other):
                self.assertEqual(one.times(other).shared(other), one)

    def test_far_powers_and_great_counts(self):
        one = Sum(8, [((1000,) * 8, 10 ** 30 - 1), ((-1000,) * 8, -1), ((0,) * 8, 7)])
        other = Sum(8, [((-1000, 1000) * 4, 10 ** 30 - 3), ((1000, -1000) * 4, 2)])
        self.assertEqual(one.times(other).shared(other), one)

    def test_by_a_single_product(self):
        one = Sum(2, [((3, -2), 6), ((0, 0), -4)])
        self.assertEqual(one.shared(Sum(2, [((-1, 5), -2)])), Sum(2, [((4, -7), -3), ((1, -5), 2)]))
        self.assertEqual(one.shared(one), constant(2, 1))

    def test_none_where_counts_do_not_go(self):
        self.assertIsNone(constant(0, 7).shared(constant(0, 2)))
        self.assertIsNone(Sum(1, [((1,), 4), ((0,), 3)]).shared(constant(1, 2)))
        self.assertIsNone(Sum(1, [((2,), 1), ((0,), -1)]).shared(Sum(1, [((1,), 2), ((0,), 2)])))
        self.assertEqual(constant(0, -8).shared(constant(0, 2)), constant(0, -4))

    def test_none_where_there_is_no_such_sum(self):
        a, b = letter(2, 0), letter(2, 1)
        self.assertIsNone(a.plus(b).shared(a.minus(b)))
        self.assertIsNone(constant(2, 1).shared(a.plus(b)))
        self.assertIsNone(a.shared(a.plus(constant(2, 1))))
        self.assertIsNone(a.raised(2).plus(b.raised(2)).shared(a.plus(b)))

    def test_one_more_product_spoils_it(self):
        source = random.Random(12)
        for _ in range(60):
            one, other = some_sum(source, 3, 5), some_sum(source, 3, 5)
            if len(other) > 1:
                spoilt = one.times(other).plus(Sum(3, [((source.randint(-9, 9), 1, 0), 1)]))
                self.assertIsNone(spoilt.shared(other))

    def test_quotients_about_wide(self):
        for by in (1, -1, 2):
            for many in (399, 400):
                one, other = geometric(many, by)
                found = one.shared(other)
                self.assertEqual(len(found), many)
                self.assertEqual(found.times(other), one)
            one, other = geometric(401, by)
            self.assertIsNone(one.shared(other))

    def test_quotients_without_end_are_none(self):
        self.assertIsNone(letter(1, 0, by=-1000).shared(letter(1, 0).plus(constant(1, 1))))
        far = Sum(2, [((1000, 1000), 1), ((-1000, -1000), 1), ((1000, -1000), 1), ((-1000, 1000), 1)])
        self.assertIsNone(far.shared(Sum(2, [((1, 0), 1), ((0, 1), 1), ((0, 0), 1)])))

    def test_nought_is_shared_as_nought(self):
        self.assertEqual(Sum(2).shared(letter(2, 0).plus(constant(2, 5))), Sum(2))

    def test_refusals_in_their_order(self):
        for one in (Sum(2), letter(2, 0)):
            with self.assertRaises(NoPart):
                one.shared(Sum(2))
            for other in (Sum(3), letter(1, 0)):
                with self.assertRaises(BadSum):
                    one.shared(other)

    def test_both_stay_as_they_were(self):
        one, other = row(0, 6), row(-3, 3)
        found = one.shared(other)
        self.assertEqual((one, other), (row(0, 6), row(-3, 3)))
        self.assertEqual(found.terms(), [((6,), 1), ((3,), 1)])


if __name__ == "__main__":
    unittest.main()
