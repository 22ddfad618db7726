"""Walks: reduced, inner sums, buds told by them, worths and least ways, friezes, belts, rings."""

import itertools
import math
import random
import unittest
from fractions import Fraction

from budwright.errors import BadOrder, Great, Mixed, NoPart, NoPlace
from budwright.sums import Sum, constant, letter
from budwright.tables import beside, opposite, principal, reordered
from budwright.walks import belt, frieze, inner, leaned, parted, reduced, ring_length, walked
from budwright.webs import Web
from samples import (COUNTED, ENDLESS, FOUR, LETTERED, NO_NUMBERS, ONE, RING, TALL, TWO, slow_turned,
                     some_even_table, tree, wandered, with_roots)

FINITE = [table for tables in LETTERED.values() for table in tables]


def some_tables(source, often, span=2):
    for many, roots in itertools.product(range(1, 5), range(5)):
        for _ in range(often):
            yield some_even_table(source, many, roots, source.randint(1, span))


def some_part(source, above=False):
    top, under = source.randint(1 if above else -6, 6), source.randint(1, 6)
    shared = math.gcd(top, under)
    return (top // shared, under // shared)


def slow_walked(table, walk, parts):
    """Fractions behind a walk, without any bound; None where one is parted by nought."""
    worths = [Fraction(*part) for part in parts]
    for k in walk:
        if worths[k] == 0:
            return None
        plus = math.prod(worth ** row[k] for worth, row in zip(worths, table) if row[k] > 0)
        minus = math.prod(worth ** -row[k] for worth, row in zip(worths, table) if row[k] < 0)
        worths[k] = (plus + minus) / worths[k]
        table = slow_turned(table, k)
    return [(worth.numerator, worth.denominator) for worth in worths]


class ReducedTest(unittest.TestCase):
    def test_reduced(self):
        for walk, left in (
            ([], []), ([0], [0]), ([0, 0], []), ([0, 1, 1, 0], []), ([0, 1, 1, 0, 2], [2]), ([0, 0, 0], [0]),
            ([0, 1, 0, 1], [0, 1, 0, 1]), ([1, 0, 0, 1, 1], [1]), ([2, 0, 1, 1, 0, 2, 3], [3]), ([0, 0] * 30, []),
            ([3, 1, 1, 1, 3], [3, 1, 3]),
        ):
            given = list(walk)
            self.assertEqual(reduced(given), left)
            self.assertEqual(given, walk)
            self.assertEqual(reduced(walk=tuple(walk)), left)
            self.assertIs(type(reduced(tuple(walk))), list)
        walk = [0, 1]
        self.assertIsNot(reduced(walk), walk)

    def test_it_leads_to_the_same_web(self):
        source = random.Random(71)
        for table in FINITE:
            walk = [source.randrange(len(table)) for _ in range(20)]
            one, other = Web(table), Web(table)
            one.walk(walk)
            other.walk(reduced(walk))
            self.assertEqual((one, one.hues(), one.leans()), (other, other.hues(), other.leans()))
            self.assertFalse([1 for a, b in zip(reduced(walk), reduced(walk)[1:]) if a == b])


class InnerTest(unittest.TestCase):
    def test_by_hand(self):
        self.assertEqual([str(one) for one in inner(TWO, [0, 1])], ["a + 1", "ab + a + 1"])
        self.assertEqual([str(one) for one in inner(table=TWO, walk=(1, 0))], ["ab + a + 1", "b + 1"])
        self.assertEqual([str(one) for one in inner(((0, 2), (-1, 0), (5, 5)), [0, 1])],
                         ["a + 1", "a^2b + a^2 + 2a + 1"])
        self.assertEqual(inner(FOUR, []), [constant(4, 1)] * 4)
        self.assertEqual(inner(ONE, [0, 0, 0]), [Sum(1, [((1,), 1), ((0,), 1)])])

    def test_against_the_principal_web(self):
        source = random.Random(72)
        for table in list(some_tables(source, 2)) + FINITE:
            many = len(table[0])
            web = wandered(source, principal(table), 7)
            found = inner(table, web.done())
            self.assertEqual(len(found), many)
            for one, bud in zip(found, web.buds()):
                self.assertEqual(one.width, many)
                self.assertEqual(one.terms(), sorted([(powers[many:], count) for powers, count
                                                      in bud.with_ones(tuple(range(many))).terms()], reverse=True))
                self.assertEqual([count for powers, count in one.terms() if not any(powers)], [1])
                self.assertTrue(all(min(powers) >= 0 for powers, count in one.terms()))

    def test_roots_have_no_part_in_it(self):
        self.assertEqual(inner(TALL, [0]), inner(TALL[:2], [0]))
        self.assertEqual(inner(((0, 7), (-7, 0), (7, 2)), [0]), inner(((0, 7), (-7, 0)), [0]))

    def test_refused_step_by_step(self):
        wide = ((0, 50), (-50, 0))
        Web(wide).walk([0, 1])
        for table, walk, error, place in (
            (TWO, [2], NoPlace, 2), (TWO, [0, 1, -1, 5], NoPlace, -1), (TALL, (0, 2), NoPlace, 2),
            (wide, [0, 1], Great, None), (wide, [0, 1, 2], Great, None), (wide, [0, 2, 1], NoPlace, 2),
        ):
            with self.subTest((table, walk)), self.assertRaises(error) as caught:
                inner(table, walk)
            if place is not None:
                self.assertEqual(caught.exception.place, place)
        for place in NO_NUMBERS:
            with self.assertRaises(NoPlace) as caught:
                inner(TWO, [0, place])
            self.assertEqual(caught.exception.place, place)

    def test_great_just_as_the_principal_web(self):
        source = random.Random(73)
        counts = [0, 0]
        for table in some_tables(source, 4, 3):
            walk = [source.randrange(len(table[0])) for _ in range(6)]
            web = Web(principal(table))
            try:
                web.walk(walk)
            except Great:
                counts[0] += 1
                with self.assertRaises(Great):
                    inner(table, walk)
            else:
                counts[1] += 1
                self.assertEqual([len(one) for one in inner(table, walk)], [len(bud) for bud in web.buds()])
        self.assertGreater(min(counts), 8)

    def test_long_walks(self):
        self.assertEqual(inner(TWO, [0, 1] * 30), [constant(2, 1)] * 2)
        self.assertEqual(inner(TWO, [0, 1] * 35), [constant(2, 1)] * 2)


class PartedTest(unittest.TestCase):
    def test_each_bud_is_told_by_its_lean_and_inner_sum(self):
        source = random.Random(74)
        told = 0
        for table in list(some_tables(source, 3)) + [with_roots(source, table, 2) for table in FINITE]:
            web = wandered(source, table, 7)
            try:
                sums = inner(table, web.done())
            except Great:
                continue
            told += 1
            for lean, one, bud in zip(web.leans(), sums, web.buds()):
                self.assertEqual(parted(table, lean, one), bud)
        self.assertGreater(told, 60)

    def test_all_buds_of_all_letters(self):
        for letters in ("A3", "B3", "G2", "B2"):
            for table in LETTERED[letters]:
                table = table + (tuple(range(1, len(table) + 1)), (-1,) * len(table))
                for walk in itertools.product(range(len(table[0])), repeat=5):
                    web = Web(table)
                    try:
                        web.walk(walk)
                    except Great:
                        continue
                    pairs = zip(web.leans(), inner(table, walk))
                    self.assertEqual([parted(table, *pair) for pair in pairs], web.buds())

    def test_by_hand(self):
        one = Sum(2, [((1, 1), 1), ((0, 1), 1), ((0, 0), 1)])
        self.assertEqual(str(parted(TWO, (0, -1), one)), "ab^-1 + ab^-2 + b^-1")
        table = ((0, 1), (-1, 0), (-2, 0), (0, 3))
        self.assertEqual(parted(table=table, lean=(1, 0), inner=constant(2, 1)), letter(4, 0))
        # The letter a stands for b^-1c^-2, the letter b for ad^3; c^-2 is the least power of c, taken off from all.
        self.assertEqual(str(parted(table, (2, 0), one)), "a^3c^2d^3 + a^3b^-1d^3 + a^2c^2")

    def test_nothing_is_changed(self):
        one = Sum(2, [((1, 1), 1), ((0, 0), 1)])
        parted(TWO, (1, 2), one)
        self.assertEqual(one, Sum(2, [((1, 1), 1), ((0, 0), 1)]))
        self.assertEqual(parted(TWO, (0, 0), constant(2, 0)), constant(2, 0))


class WalkedTest(unittest.TestCase):
    def test_against_fractions(self):
        source = random.Random(75)
        counts = {"told": 0, "great": 0, "nought": 0}
        for table in some_tables(source, 12):
            parts = [some_part(source) for _ in table]
            walk = [source.randrange(len(table[0])) for _ in range(source.randint(0, 8))]
            try:
                found = walked(table, walk, parts)
            except Great:
                counts["great"] += 1
                continue
            except NoPart:
                counts["nought"] += 1
                self.assertIsNone(slow_walked(table, walk, parts))
                continue
            counts["told"] += 1
            self.assertEqual(found, slow_walked(table, walk, parts))
        self.assertGreater(min(counts.values()), 10, counts)

    def test_against_the_buds_worth(self):
        source = random.Random(76)
        told = 0
        for table in list(some_tables(source, 4)) + FINITE * 3:
            web = wandered(source, table, 6)
            parts = [some_part(source) for _ in table]
            try:
                found = walked(table, web.done(), parts)
            except (Great, NoPart):
                continue
            told += 1
            if all(top for top, under in parts[:len(web)]):
                self.assertEqual(found, [web.bud(place).worth(parts) for place in range(web.places())])
        self.assertGreater(told, 60)

    def test_kinds_of_values(self):
        parts = [(1, 2), (-3, 1), (0, 1)]
        table = TWO + ((1, 0),)
        found = walked(table, [1, 0], parts)
        # b becomes (a + 1) / b, a becomes (bc + 1) / a.
        self.assertEqual(found, [(2, 1), (-1, 2), (0, 1)])
        self.assertEqual(parts, [(1, 2), (-3, 1), (0, 1)])
        self.assertIs(type(found), list)
        same = walked(table=table, walk=(), parts=parts)
        self.assertEqual(same, parts)
        self.assertIsNot(same, parts)
        same.append(1)
        self.assertEqual(len(parts), 3)

    def test_no_part(self):
        with self.assertRaises(NoPart):
            walked(TWO, [0], [(0, 1), (1, 1)])
        self.assertEqual(walked(TWO, [1], [(0, 1), (1, 2)]), [(0, 1), (2, 1)])
        # A root worth -1 makes the bud nought, which isn't parted by.
        table = ((0,), (1,))
        self.assertEqual(walked(table, [0], [(5, 1), (-1, 1)]), [(0, 1), (-1, 1)])
        with self.assertRaises(NoPart):
            walked(table, [0, 0], [(5, 1), (-1, 1)])

    def test_great_for_tops_beyond_sixty_figures(self):
        nines, table = 10 ** 20 - 1, ((0,), (3,))
        self.assertEqual(walked(table, [0], [(1, 1), (nines, 1)])[0], (nines ** 3 + 1, 1))
        with self.assertRaises(Great):
            walked(table, [0], [(1, 1), (nines + 1, 1)])
        self.assertEqual(walked(table, [0], [(-1, 1), (nines, 1)])[0], (-nines ** 3 - 1, 1))
        with self.assertRaises(Great):
            walked(table, [0], [(-1, 1), (nines + 1, 1)])
        two, most = ((0,), (2,)), 10 ** 30 - 1
        self.assertEqual(walked(two, [0], [(1, 1), (most, 1)])[0], (most ** 2 + 1, 1))
        with self.assertRaises(Great):
            walked(two, [0], [(1, 2), (most, 1)])
        # Just sixty figures: the greatest number there is.
        self.assertEqual(walked(((0,), (1,), (1,)), [0], [(1, 10), (10 ** 29, 1), (10 ** 30 - 1, 1)])[0],
                         (10 * (10 ** 29 * (10 ** 30 - 1) + 1), 1))

    def test_great_for_unders_beyond_sixty_figures(self):
        nines, table = 10 ** 20 - 1, ((0,), (3,))
        top, under = walked(table, [0], [(1, 1), (1 - nines, nines)])[0]
        self.assertEqual(under, nines ** 3)
        self.assertLess(top, 10 ** 50)
        with self.assertRaises(Great):
            walked(table, [0], [(1, 1), (-nines, nines + 1)])

    def test_what_is_great_on_the_way_only_in_higher_terms_is_granted(self):
        # (a^50 + 1) is divided by itself: what comes is 1.
        part = (10 ** 30 - 1, 10 ** 30 - 3)
        self.assertEqual(math.gcd(*part), 1)
        self.assertEqual(walked(((0,), (1,), (-1,)), [0, 0], [part, (1, 1), (1, 1)])[0], part)

    def test_refused_step_by_step(self):
        sharp = ((0, 7), (-7, 0), (7, 2))
        ones = [(1, 1)] * 3
        nought = [(0, 1), (1, 1), (1, 1)]
        huge = [(1, 10 ** 29), (10 ** 20, 1), (10 ** 20, 1)]
        for table, walk, parts, error in (
            (TWO, [2], ones[:2], NoPlace), (TWO, [-1], ones[:2], NoPlace), (sharp, [2], nought, NoPlace),
            (sharp, [0], nought, NoPart), (sharp, [0], ones, Great), (sharp, [0], huge, Great),
            (sharp, [0, 2], ones, Great), (sharp, [1, 2, 0], ones, NoPlace), (sharp, [1, 0], nought, NoPart),
            (sharp, (1, 1, 0, 5), ones, Great), (sharp, [0, 5], nought, NoPart),
        ):
            given = list(parts)
            with self.subTest((table, walk, parts)), self.assertRaises(error) as caught:
                walked(table, walk, given)
            if error is NoPlace:
                self.assertIn(caught.exception.place, walk)
                self.assertFalse(0 <= caught.exception.place < 2)
            self.assertEqual(given, parts)
        for place in NO_NUMBERS:
            with self.assertRaises(NoPlace):
                walked(TWO, [place], ones[:2])

    def test_long_walks(self):
        self.assertEqual(walked(TWO, [0, 1] * 30, [(2, 3), (5, 7)]), [(2, 3), (5, 7)])


class LeanedTest(unittest.TestCase):
    def test_by_hand(self):
        self.assertEqual(leaned(((0,), (2,), (-3,)), [0], [5, 7, 4]), [7, 7, 4])
        self.assertEqual(leaned(((0,), (2,), (-3,)), [0], [5, 7, 4], greatest=True), [9, 7, 4])
        self.assertEqual(leaned(table=TWO, walk=(0, 1), numbers=[3, -2], greatest=False), [-5, -3])
        self.assertEqual(leaned(TWO, [], [10 ** 50, -1]), [10 ** 50, -1])

    def test_against_the_buds(self):
        source = random.Random(77)
        for table in list(some_tables(source, 4)) + FINITE * 2:
            web = wandered(source, table, 7)
            numbers = [source.choice((source.randint(-5, 5), source.randint(-10 ** 40, 10 ** 40))) for _ in table]
            given = list(numbers)
            sums = [web.bud(place) for place in range(web.places())]
            least = leaned(table, web.done(), given)
            self.assertEqual(least, [one.least(numbers) for one in sums])
            self.assertEqual(leaned(table, tuple(web.done()), given, greatest=True),
                             [one.greatest(numbers) for one in sums])
            self.assertEqual(given, numbers)
            self.assertIs(type(least), list)
            self.assertIsNot(least, given)

    def test_refused_step_by_step(self):
        sharp = ((0, 7), (-7, 0), (7, 2))
        for walk, error, place in (
            ([0], Great, None), ([2], NoPlace, 2), ([-1, 0], NoPlace, -1), ([0, 2], Great, None),
            ([1, 2, 0], NoPlace, 2), ((1, 1, 0), Great, None),
        ):
            for greatest in (False, True):
                numbers = [1, 2, 3]
                with self.subTest(walk), self.assertRaises(error) as caught:
                    leaned(sharp, walk, numbers, greatest=greatest)
                if place is not None:
                    self.assertEqual(caught.exception.place, place)
                self.assertEqual(numbers, [1, 2, 3])
        for place in NO_NUMBERS:
            with self.assertRaises(NoPlace):
                leaned(TWO, [place], [1, 2])


class FriezeTest(unittest.TestCase):
    def test_by_hand(self):
        self.assertEqual(frieze(TWO, 5), [[1, 1], [2, 3], [2, 1], [1, 2], [3, 2], [1, 1]])
        self.assertEqual(frieze(table=ONE, rounds=3), [[1], [2], [1], [2]])
        self.assertEqual(frieze(((0, 2), (-2, 0)), 3), [[1, 1], [2, 5], [13, 34], [89, 233]])
        self.assertEqual(frieze(FOUR, 0), [[1, 1, 1, 1]])

    def test_against_fractions(self):
        source = random.Random(78)
        counts = [0, 0]
        for table in list(some_tables(source, 3)) + FINITE + list(ENDLESS):
            many, rounds = len(table[0]), source.randint(1, 12)
            try:
                lines = frieze(table, rounds)
            except Great:
                counts[0] += 1
                continue
            counts[1] += 1
            self.assertEqual(len(lines), rounds + 1)
            for number, line in enumerate(lines):
                wanted = slow_walked(table, list(range(many)) * number, [(1, 1)] * len(table))
                self.assertEqual([(worth, 1) for worth in line], wanted[:many])
                self.assertTrue(all(type(worth) is int and worth > 0 for worth in line))
        self.assertGreater(min(counts), 20)

    def test_great(self):
        wide = ((0, 50), (-50, 0))
        self.assertEqual(frieze(wide, 1), [[1, 1], [2, 2 ** 50 + 1]])
        with self.assertRaises(Great):
            frieze(wide, 2)
        with self.assertRaises(Great):
            frieze(((0, 7), (-7, 0), (7, 2)), 1)
        self.assertEqual(frieze(((0, 7), (-7, 0), (7, 2)), 0), [[1, 1]])
        lines = frieze(((0, 3), (-3, 0)), 3)
        self.assertEqual(lines[1], [2, 9])
        self.assertTrue(all(worth < 10 ** 60 for worth in lines[-1]))
        with self.assertRaises(Great):
            frieze(((0, 3), (-3, 0)), 6)


class BeltTest(unittest.TestCase):
    def belts(self, letters):
        for table in LETTERED[letters]:
            if all(min(row) >= 0 or max(row) <= 0 for row in table):
                yield table

    def test_each_letter(self):
        for letters, (buds, webs, rounds) in COUNTED.items():
            tables = list(self.belts(letters))
            self.assertTrue(tables)
            for table in tables:
                for one in (table, opposite(table), reordered(table, tuple(range(len(table)))[::-1])):
                    with self.subTest(one):
                        self.assertEqual(belt(one), rounds)
                        self.assertEqual(belt(one, most=rounds), rounds)
                        self.assertEqual(belt(one, most=40), rounds)
                        self.assertIsNone(belt(one, most=rounds - 1))
                        self.assertIsNone(belt(one, most=1))

    def test_against_webs(self):
        for letters in ("A2", "A3", "B2", "B3", "G2", "D4"):
            for table in self.belts(letters):
                up = [bud for bud, row in enumerate(table) if min(row) >= 0]
                places = up + [bud for bud in range(len(table)) if bud not in up]
                web, rounds = Web(table), 0
                begun = web.leans()
                while rounds == 0 or web.leans() != begun:
                    web.walk(places)
                    rounds += 1
                self.assertEqual(belt(table), rounds)
                self.assertEqual(web, Web(table))

    def test_several_letters(self):
        names = [("A1", "A1"), ("A1", "A2"), ("A2", "A2"), ("A2", "B2"), ("A2", "G2"), ("B2", "G2"), ("A1", "A3"),
                 ("A1", "B3"), ("A1", "A1", "A2"), ("A1", "A1", "B2"), ("A1", "G2", "A1"), ("A1",) * 4]
        for letters in names:
            table = next(self.belts(letters[0]))
            for name in letters[1:]:
                table = beside(table, next(self.belts(name)))
            wanted = math.lcm(*[COUNTED[name][2] for name in letters])
            with self.subTest(letters):
                self.assertEqual(belt(table), wanted)
                self.assertIsNone(belt(table, most=wanted - 1))
                self.assertEqual(belt(table, most=wanted), wanted)

    def test_endless_ones(self):
        for table in (((0, 2), (-2, 0)), ((0, 1), (-4, 0)), ((0, 50), (-50, 0)),
                      tree(4, (0, 1, 2, -1), (1, 2, -1, 1), (2, 3, 1, -2)), tree(3, (0, 1, 1, -1), (1, 2, -1, 3)),
                      beside(ONE, ((0, 2), (-2, 0)))):
            self.assertIsNone(belt(table))
            self.assertIsNone(belt(table, most=40))

    def test_of_the_buds_rows_alone(self):
        self.assertEqual(belt(TWO + ((50, -50), (-50, 50), (1, 1))), 5)
        self.assertEqual(belt(((0, 7), (-7, 0), (7, 2))), None)
        self.assertEqual(belt(((0,), (-3,))), 2)

    def test_mixed(self):
        for table in (RING, FOUR, tree(3, (0, 1, 1, -1), (1, 2, 1, -1)), tree(3, (0, 1, 1, -1), (1, 2, 1, -1)) + RING,
                      tree(4, (0, 1, 1, -1), (1, 2, -1, 1), (2, 3, -1, 1)), ENDLESS[5]):
            for most in (1, 20, 40):
                with self.assertRaises(Mixed):
                    belt(table, most=most)


class RingLengthTest(unittest.TestCase):
    def test_each_length(self):
        for there, back in itertools.product(range(0, 51, 1), repeat=2):
            if (there == 0) == (back == 0):
                wanted = {0: 4, 1: 5, 2: 6, 3: 8}.get(there * back)
                for sign in (1, -1):
                    self.assertEqual(ring_length(((0, sign * there), (-sign * back, 0)), 0, 1), wanted)
        self.assertEqual(ring_length(table=FOUR + FOUR, one=2, other=0), 4)
        self.assertEqual(ring_length(FOUR, 3, 0), 5)
        self.assertEqual(ring_length(tree(3, (0, 2, 3, -1), (1, 2, 2, -2)), 2, 0), 8)
        self.assertIsNone(ring_length(tree(3, (0, 2, 3, -1), (1, 2, 2, -2)), 2, 1))

    def test_no_place(self):
        for one, other, place in ((2, 0, 2), (0, 2, 2), (-1, 5, -1), (1, -1, -1), (5, 5, 5), (1, None, None)):
            with self.assertRaises(NoPlace) as caught:
                ring_length(TALL, one, other)
            self.assertEqual(caught.exception.place, place)
        for place in NO_NUMBERS:
            with self.assertRaises(NoPlace):
                ring_length(TWO, place, 0)
            with self.assertRaises(NoPlace):
                ring_length(TWO, 1, place)

    def test_one_bud_twice(self):
        for table, bud in ((ONE, 0), (TWO, 0), (TALL, 1), (FOUR, 3)):
            with self.assertRaises(BadOrder):
                ring_length(table, bud, bud)


if __name__ == "__main__":
    unittest.main()
