"""Sums: making, adding, multiplying, raising."""

import itertools
import random
import unittest
import unittest.mock

from budwright.errors import BadSum, Great
from budwright.sums import WIDE, Sum, constant, letter


def row(first, many, width=1):
    """A sum of so many powers of its first letter, from one on."""
    return Sum(width, [((power,) + (0,) * (width - 1), 1) for power in range(first, first + many)])


def slow_product(one, other):
    found = {}
    for (powers, count), (more, many) in itertools.product(one.terms(), other.terms()):
        key = tuple(map(sum, zip(powers, more)))
        found[key] = found.get(key, 0) + count * many
    return sorted([pair for pair in found.items() if pair[1]], reverse=True)


def some_sum(source, width, many, span=3):
    return Sum(width, [(tuple(source.randint(-span, span) for _ in range(width)), source.randint(-5, 5))
                       for _ in range(many)])


class MakingTest(unittest.TestCase):
    def test_like_powers_are_added_and_counts_of_nought_let(self):
        made = Sum(2, [((1, 0), 2), ((0, 1), 5), ((1, 0), 3), ((2, 2), 0), ((0, 0), 4), ((0, 0), -4)])
        self.assertEqual(made.terms(), [((1, 0), 5), ((0, 1), 5)])

    def test_terms_fall_by_their_powers(self):
        made = Sum(2, (((0, 0), 1), ((-1, 9), 1), ((0, -2), 1), ((1, -1000), 1), ((1, 0), 1)))
        self.assertEqual([powers for powers, count in made.terms()],
                         [(1, 0), (1, -1000), (0, 0), (0, -2), (-1, 9)])

    def test_all_widths(self):
        for width in range(9):
            made = Sum(width, [((-1000,) * width, 1), ((1000,) * width, 10 ** 30 - 1)])
            self.assertEqual(made.width, width)
            self.assertEqual(made.terms(), [((), 10 ** 30)] if width == 0 else
                             [((1000,) * width, 10 ** 30 - 1), ((-1000,) * width, 1)])

    def test_nought(self):
        for nought in (Sum(3), Sum(3, []), Sum(3, ()), Sum(width=3, terms=[((1, 2, 3), 0)]), constant(3, 0)):
            self.assertEqual((nought.width, nought.terms(), len(nought)), (3, [], 0))

    def test_kinds_of_what_is_told(self):
        terms = Sum(2, [((1, 0), 2)]).terms()
        self.assertIs(type(terms), list)
        self.assertIs(type(terms[0]), tuple)
        self.assertIs(type(terms[0][0]), tuple)

    def test_powers_of_another_length(self):
        for terms in ([((1,), 1)], [((1, 2, 3), 1)], [((1, 2), 1), ((), 1)], [((1,), 0)]):
            with self.subTest(terms), self.assertRaises(BadSum):
                Sum(2, terms)

    def test_bad_sum_goes_ahead_of_great(self):
        with self.assertRaises(BadSum):
            Sum(1, [((power,), 1) for power in range(WIDE + 1)] + [((), 1)])

    def test_great_beyond_wide(self):
        self.assertEqual(len(row(0, WIDE)), WIDE)
        with self.assertRaises(Great):
            row(0, WIDE + 1)

    def test_only_products_that_are_left_count_for_great(self):
        terms = [((power,), 1) for power in range(WIDE + 9)] + [((power,), -1) for power in range(9)]
        self.assertEqual(len(Sum(1, terms)), WIDE)
        self.assertEqual(len(Sum(1, [((power,), 0) for power in range(WIDE + 9)])), 0)

    def test_what_is_handed_in_stays_and_its_later_change_changes_nothing(self):
        terms = [((0, 1), 1), ((1, 0), 2), ((0, 1), -1)]
        kept = list(terms)
        made = Sum(2, terms)
        self.assertEqual(terms, kept)
        terms.append(((5, 5), 5))
        self.assertEqual(made.terms(), [((1, 0), 2)])

    def test_terms_are_a_new_list_each_time(self):
        made = Sum(1, [((1,), 1)])
        made.terms().append("more")
        made.terms().clear()
        self.assertEqual(made.terms(), [((1,), 1)])

    def test_len_truth_and_repr(self):
        made = Sum(3, [((1, 0, 0), 1), ((0, 0, 0), 2)])
        self.assertEqual((len(made), repr(made), bool(made)), (2, "Sum(3 letters, 2 products)", True))
        self.assertEqual((repr(Sum(1)), bool(Sum(1))), ("Sum(1 letters, 0 products)", False))
        self.assertEqual(repr(letter(1, 0)), "Sum(1 letters, 1 products)")

    def test_equality(self):
        one = Sum(2, [((1, 0), 1), ((0, 1), 2)])
        self.assertEqual(one, Sum(2, [((0, 1), 2), ((1, 0), 1)]))
        self.assertFalse(one != Sum(2, [((0, 1), 2), ((1, 0), 1)]))
        self.assertEqual(Sum(2), Sum(2))
        for other in (Sum(2, [((1, 0), 1)]), Sum(2, [((1, 0), 1), ((0, 1), 3)]), one.widened(3), one.terms(),
                      str(one), None, 0):
            self.assertFalse(one == other)
            self.assertTrue(one != other)
        self.assertFalse(Sum(2) == Sum(3))
        self.assertFalse(Sum(2) == 0)
        self.assertFalse(constant(0, 1) == 1)

    def test_letter(self):
        self.assertEqual(letter(3, 1), Sum(3, [((0, 1, 0), 1)]))
        self.assertEqual(letter(3, 2, by=-4), Sum(3, [((0, 0, -4), 1)]))
        self.assertEqual(letter(number=0, width=1, by=0), constant(1, 1))
        with self.assertRaises(TypeError):
            letter(3, 1, 2)

    def test_constant(self):
        self.assertEqual(constant(0, -7).terms(), [((), -7)])
        self.assertEqual(constant(width=2, many=9).terms(), [((0, 0), 9)])


class ReckoningTest(unittest.TestCase):
    def test_plus_and_minus(self):
        one = Sum(2, [((1, 0), 2), ((0, 0), 1)])
        other = Sum(2, [((1, 0), -2), ((0, -1), 3)])
        self.assertEqual(one.plus(other).terms(), [((0, 0), 1), ((0, -1), 3)])
        self.assertEqual(one.minus(other).terms(), [((1, 0), 4), ((0, 0), 1), ((0, -1), -3)])
        self.assertEqual(one.minus(one), Sum(2))
        self.assertEqual(one.plus(Sum(2)), one)
        self.assertEqual(Sum(2).minus(one).terms(), [((1, 0), -2), ((0, 0), -1)])

    def test_times(self):
        a, b = letter(2, 0), letter(2, 1)
        self.assertEqual(a.plus(b).times(a.minus(b)).terms(), [((2, 0), 1), ((0, 2), -1)])
        self.assertEqual(a.times(letter(2, 0, by=-1)), constant(2, 1))
        self.assertEqual(a.times(Sum(2)), Sum(2))

    def test_times_is_as_multiplied_by_hand(self):
        source = random.Random(5)
        for _ in range(60):
            width = source.randint(0, 4)
            one, other = some_sum(source, width, 6), some_sum(source, width, 6)
            self.assertEqual(one.times(other).terms(), slow_product(one, other))

    def test_raised(self):
        a, b = letter(2, 0), letter(2, 1)
        self.assertEqual(a.plus(b).raised(0), constant(2, 1))
        self.assertEqual(a.plus(b).raised(1), a.plus(b))
        self.assertEqual(a.plus(b).raised(3).terms(), [((3, 0), 1), ((2, 1), 3), ((1, 2), 3), ((0, 3), 1)])
        self.assertEqual(letter(2, 0, by=-2).raised(50), letter(2, 0, by=-100))
        self.assertEqual(constant(0, 10 ** 30 - 1).raised(50).terms(), [((), (10 ** 30 - 1) ** 50)])

    def test_nought_raised(self):
        self.assertEqual(Sum(2).raised(0), constant(2, 1))
        self.assertEqual(Sum(2).raised(1), Sum(2))
        self.assertEqual(Sum(2).raised(50), Sum(2))

    def test_another_width_is_refused(self):
        for other in (Sum(1), Sum(3), letter(3, 0), constant(0, 1)):
            for one in (Sum(2), letter(2, 1)):
                for deed in (one.plus, one.minus, one.times):
                    with self.assertRaises(BadSum):
                        deed(other)

    def test_great_by_adding(self):
        half = row(0, 200)
        self.assertEqual(len(half.plus(row(200, 200))), WIDE)
        self.assertEqual(len(half.minus(row(-200, 200))), WIDE)
        for deed in (half.plus, half.minus):
            with self.assertRaises(Great):
                deed(row(200, 201))

    def test_great_by_multiplying(self):
        far = Sum(1, [((1000 * step,), 1) for step in range(20)])
        self.assertEqual(len(row(0, 20).times(far)), WIDE)
        with self.assertRaises(Great):
            row(0, 21).times(far)
        # 200 products with 200 others, of which all but two go away.
        self.assertEqual(len(row(0, 200).times(letter(1, 0).minus(constant(1, 1)))), 2)

    def test_great_by_raising(self):
        self.assertEqual(len(row(0, 8).raised(50)), 351)
        self.assertEqual(len(row(0, 20).raised(21)), WIDE)
        with self.assertRaises(Great):
            row(0, 20).raised(22)
        self.assertEqual(row(0, WIDE).raised(1), row(0, WIDE))
        self.assertEqual(row(0, WIDE).raised(0), constant(1, 1))
        with self.assertRaises(Great):
            row(0, 201).raised(2)
        with self.assertRaises(Great):
            row(0, 201).raised(3)

    def test_great_by_a_power_on_the_way(self):
        # This sum's powers have 6, 10, 19, 25 and 24 products: the fifth one has fewer than the fourth.
        rare = Sum(1, [((at,), count) for at, count in enumerate((1, -2, -2, 0, 1, -2, -2))])
        self.assertEqual([len(rare.raised(many)) for many in range(1, 6)], [6, 10, 19, 25, 24])
        fifth = rare.raised(5).terms()
        with unittest.mock.patch("budwright.sums.WIDE", 24):
            self.assertEqual(len(Sum(1, fifth)), 24)
            self.assertEqual(len(rare.raised(3)), 19)
            for many in (4, 5):
                with self.assertRaises(Great):
                    rare.raised(many)

    def test_all_sums_stay_as_they_were(self):
        one, other = row(0, 3), row(-1, 3)
        kept = (one.terms(), other.terms())
        one.plus(other), one.minus(other), one.times(other), one.raised(4), one.shared(other), one.with_ones((0,))
        one.widened(4), one.worth([(1, 2)]), one.least([3]), one.greatest([3]), one.lowest(), str(one)
        with self.assertRaises(Great):
            row(0, WIDE).times(row(0, 2))
        self.assertEqual((one.terms(), other.terms()), kept)


if __name__ == "__main__":
    unittest.main()
