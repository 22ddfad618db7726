"""Exchanges: the new bud, hues and leans, what is too great, two buds by turns, tables put otherwise."""

import itertools
import math
import random
import unittest
from fractions import Fraction

from budwright.errors import Great
from budwright.seeds import first_seed, turned_seed
from budwright.sums import WIDE, Sum, constant, letter
from budwright.tables import beside, opposite, reordered, turned
from budwright.webs import MOST_TERMS, Web
from samples import (ENDLESS, LETTERED, ONE, RING, TWO, greatest_tie, slow_turned, some_even_table, tree, wandered,
                     with_roots)


def both_sides(web, place):
    """The sum of both products of [10], multiplied out; Great where it is too wide."""
    sides = []
    for sign in (1, -1):
        side = constant(web.places(), 1)
        for at, row in enumerate(web.table()):
            for _ in range(sign * row[place]):
                side = side.times(web.bud(at))
        sides.append(side)
    return sides[0].plus(sides[1])


def slow_hues(web, k):
    row, own = web.table()[k], web.hues()[k]
    sign = 1 if max(own) > 0 else -1
    hues = [tuple(a + max(0, sign * row[j]) * b for a, b in zip(hue, own)) for j, hue in enumerate(web.hues())]
    hues[k] = tuple(-number for number in own)
    return hues


def slow_leans(web, k):
    sign = 1 if max(web.hues()[k]) > 0 else -1
    leans = web.leans()
    total = [-number for number in leans[k]]
    for j in range(len(web)):
        if j != k:
            often = max(0, -sign * web.table()[j][k])
            total = [a + often * b for a, b in zip(total, leans[j])]
    leans[k] = tuple(total)
    return leans


def slow_worth(bud, parts):
    return sum(count * math.prod(part ** power for part, power in zip(parts, powers)) for powers, count in bud.terms())


def all_of(web):
    return (web.table(), [web.bud(place) for place in range(web.places())], web.hues(), web.leans())


def many_tables(source, often, span=2):
    """Tables of one to four buds and nought to four roots."""
    for many, roots in itertools.product(range(1, 5), range(5)):
        for _ in range(often):
            yield some_even_table(source, many, roots, source.randint(1, span))


class NewBudTest(unittest.TestCase):
    def check_texts(self, table, places, texts):
        web = Web(table)
        found = []
        for place in places:
            web.exchange(place)
            found.append(str(web.bud(place)))
        self.assertEqual(found, texts)
        return web

    def test_one_bud(self):
        self.check_texts(ONE, [0, 0, 0], ["2a^-1", "a", "2a^-1"])
        self.check_texts(((0,), (1,)), [0, 0], ["a^-1b + a^-1", "a"])
        self.check_texts(((0,), (2,), (-3,)), [0], ["a^-1b^2 + a^-1c^3"])
        self.check_texts(((0,), (1,), (1,), (1,), (50,)), [0, 0], ["a^-1bcde^50 + a^-1", "a"])

    def test_two_buds(self):
        web = self.check_texts(TWO, [0, 1, 0, 1, 0], [
            "a^-1b + a^-1", "b^-1 + a^-1 + a^-1b^-1", "ab^-1 + b^-1", "a", "b"])
        self.assertEqual(web.table(), ((0, -1), (1, 0)))
        self.check_texts(((0, 1), (-2, 0)), [0, 1], ["a^-1b^2 + a^-1", "b^-1 + a^-1b + a^-1b^-1"])
        self.check_texts(((0, 1), (-1, 0), (1, 0), (0, -2)), [1, 0],
                         ["ab^-1 + b^-1d^2", "b^-1c + a^-1d^2 + a^-1b^-1cd^2"])

    def test_the_table_turns(self):
        web = Web(((0, 1, 0), (-1, 0, 1), (0, -1, 0), (2, -1, 0)))
        web.exchange(1)
        self.assertEqual(web.table(), ((0, -1, 1), (1, 0, -1), (-1, 1, 0), (1, 1, 0)))
        web.exchange(place=0)
        self.assertEqual(web.table(), ((0, 1, -1), (-1, 0, 0), (1, 0, 0), (-1, 1, 1)))

    def test_old_times_new_is_both_sides(self):
        source = random.Random(61)
        granted = 0
        for table in many_tables(source, 3):
            web = Web(table)
            for _ in range(7):
                k = source.randrange(len(web))
                old = web.twin()
                try:
                    web.exchange(k)
                except Great:
                    self.assertEqual(all_of(web), all_of(old))
                    continue
                granted += 1
                self.assertEqual(old.bud(k).times(web.bud(k)), both_sides(old, k))
                self.assertEqual(web.table(), turned(old.table(), k))
                self.assertEqual(web.weights(), old.weights())
                self.assertEqual([web.bud(p) for p in range(web.places()) if p != k],
                                 [old.bud(p) for p in range(web.places()) if p != k])
        self.assertGreater(granted, 250)

    def test_against_worths(self):
        source = random.Random(62)
        for table in many_tables(source, 2):
            web = Web(table)
            firsts = [Fraction(source.randint(1, 9), source.randint(1, 9)) for _ in table]
            worths, ties = list(firsts), table
            for _ in range(6):
                k = source.randrange(len(web))
                try:
                    web.exchange(k)
                except Great:
                    continue
                plus = math.prod(worths[i] ** max(0, row[k]) for i, row in enumerate(ties))
                minus = math.prod(worths[i] ** max(0, -row[k]) for i, row in enumerate(ties))
                worths[k], ties = (plus + minus) / worths[k], slow_turned(ties, k)
                self.assertEqual(slow_worth(web.bud(k), firsts), worths[k])
                self.assertEqual(web.table(), ties)

    def test_counts_and_powers_of_roots(self):
        source = random.Random(63)
        for table in many_tables(source, 2):
            web = wandered(source, table, 10)
            for bud in web.buds():
                self.assertTrue(all(count > 0 for powers, count in bud.terms()))
                self.assertTrue(all(power >= 0 for powers, count in bud.terms() for power in powers[len(web):]))
                self.assertTrue(1 <= len(bud) <= MOST_TERMS)
                self.assertEqual(bud.width, len(table))

    def test_twice_brings_back_what_was(self):
        source = random.Random(64)
        for table in many_tables(source, 2):
            web = Web(table)
            for _ in range(6):
                k = source.randrange(len(web))
                before = all_of(web)
                try:
                    web.exchange(k)
                except Great:
                    continue
                web.exchange(k)
                self.assertEqual(all_of(web), before)
                web.exchange(k)

    def test_the_same_bud_by_whatever_way(self):
        web, other = Web(RING), Web(RING)
        web.walk([0, 1, 0])
        other.walk([1, 0])
        self.assertEqual(web.alike(other), (1, 0, 2))
        self.assertEqual(web.bud(0), other.bud(1))


class HuesAndLeansTest(unittest.TestCase):
    def test_by_hand(self):
        web = Web(((0, 2), (-1, 0), (1, 1)))
        web.exchange(0)
        self.assertEqual((web.hues(), web.leans()), ([(-1, 0), (2, 1)], [(-1, 1), (0, 1)]))
        web.exchange(1)
        self.assertEqual((web.hues(), web.leans()), ([(1, 1), (-2, -1)], [(-1, 1), (-2, 1)]))

    def test_of_many_tables(self):
        source = random.Random(65)
        for table in many_tables(source, 3, 3):
            web = Web(table)
            for _ in range(8):
                k = source.randrange(len(web))
                hues, leans = slow_hues(web, k), slow_leans(web, k)
                try:
                    web.exchange(k)
                except Great:
                    continue
                self.assertEqual((web.hues(), web.leans()), (hues, leans))
                for hue in web.hues():
                    self.assertTrue(any(hue))
                    self.assertFalse(min(hue) < 0 < max(hue))

    def test_roots_have_no_part_in_them(self):
        source = random.Random(66)
        for table in LETTERED["F4"] + LETTERED["B3"] + LETTERED["G2"]:
            places = [source.randrange(len(table)) for _ in range(15)]
            one, other = Web(table), Web(with_roots(source, table, 2, 1))
            one.walk(places)
            other.walk(places)
            self.assertEqual((one.hues(), one.leans()), (other.hues(), other.leans()))


class GreatTest(unittest.TestCase):
    def check_refused(self, table, walk, place):
        web = Web(table)
        web.walk(walk)
        before = all_of(web)
        with self.assertRaises(Great):
            web.exchange(place)
        with self.assertRaises(Great):
            web.walk([place])
        self.assertEqual(all_of(web), before)
        self.assertEqual(web.done(), list(walk))
        return web

    def test_the_tables_turning(self):
        self.check_refused(((0, 7), (-7, 0), (7, 2)), [], 0)
        self.check_refused(((0, -7), (7, 0), (-7, -2)), [], 0)
        self.check_refused(((0, 3, 0), (-3, 0, 17), (0, -17, 0)), [], 1)
        self.check_refused(((0, 5, 0), (-5, 0, 10), (0, -10, 0), (0, 1, 41)), [], 1)
        web = Web(((0, 7), (-7, 0), (7, 1)))
        web.exchange(0)
        self.assertEqual(web.table()[2], (-7, 50))

    def test_a_new_bud_of_just_most_terms(self):
        # Behind exchanges at 0 and 1 these are sums of two products: to the powers 8 and 10 they have 9 * 11.
        table = tree(3, (2, 0, 1, -8), (2, 1, 1, -10)) + ((1, 0, 0), (0, 1, 0))
        web = Web(table)
        web.walk([0, 1])
        self.assertEqual([len(bud) for bud in web.buds()], [2, 2, 1])
        web.exchange(2)
        self.assertEqual(len(web.bud(2)), 100)
        web.exchange(2)
        self.assertEqual(web.bud(2), letter(5, 2))

    def test_a_new_bud_beyond_most_terms(self):
        table = tree(3, (2, 0, 1, -9), (2, 1, 1, -9)) + ((1, 0, 0), (0, 1, 0))
        web = self.check_refused(table, [0, 1], 2)
        self.assertEqual(len(both_sides(web, 2)), 101)

    def test_other_new_buds_of_most_terms(self):
        for table, walk, place in (
            (((0, -1, -2), (4, 0, -1), (8, 1, 0)), [1, 2], 0),
            (((0, -1, -8, -2), (1, 0, -4, 2), (4, 2, 0, 0), (1, -1, 0, 0)), [1, 0], 2),
            (((0, -1, -6), (1, 0, -8), (3, 4, 0), (1, -1, 1)), [0, 1], 2),
        ):
            web = Web(table)
            web.walk(walk)
            web.exchange(place)
            self.assertEqual(len(web.bud(place)), MOST_TERMS)

    def test_both_sides_of_just_wide(self):
        web = Web(((0, 0, 2, 1), (0, 0, 0, 1), (-8, 0, 0, -4), (-2, -1, 2, 0)))
        web.walk([2, 1, 3, 0, 1])
        self.assertEqual(len(both_sides(web, 0)), WIDE)
        web.exchange(0)
        self.assertEqual(len(web.bud(0)), 40)

    def test_both_sides_beyond_wide(self):
        # The new bud of the first would have but 41 products, both sides together have 401.
        for table, walk, place in (
            (((0, 0, 1, 2), (0, 0, -1, 2), (-2, 2, 0, 0), (-1, -1, 0, 0), (-1, 1, -1, 0), (0, 1, 0, 1), (0, -1, 1, 0),
              (1, 1, -1, 1)), [1, 0, 2, 3, 1], 3),
            (((0, 1, 1, -2), (-2, 0, -2, -4), (-2, 2, 0, 4), (1, 1, -1, 0), (1, 2, 1, 1), (-2, -1, 0, 2)),
             [1, 2, 3, 0], 3),
            (((0, 3, 3), (-1, 0, 4), (-3, -12, 0), (-3, 2, 2)), [2, 0, 1, 0], 1),
        ):
            web = self.check_refused(table, walk, place)
            turned(web.table(), place)

    def test_one_side_beyond_wide(self):
        for table, walk, place in (
            (((0, -1, -3, -1), (2, 0, 0, -2), (4, 0, 0, 4), (1, 1, -3, 0), (0, -1, 0, 0), (0, -1, 0, 1), (1, 0, 1, 0)),
             [0, 2, 3, 1], 3),
            (((0, 2, 2, 8), (-6, 0, 0, -4), (-3, 0, 0, 2), (-6, 1, -1, 0)), [0, 1, 3, 2], 3),
            (((0, -4, 1), (6, 0, -2), (-3, 4, 0)), [2, 1, 2, 0, 2], 0),
        ):
            web = self.check_refused(table, walk, place)
            turned(web.table(), place)

    def test_great_just_where_it_is_due(self):
        source = random.Random(67)
        counts = {"turning": 0, "wide": 0, "terms": 0, "granted": 0}
        for table in [some_even_table(source, source.choice((3, 4)), roots, 1) for roots in (0, 1, 2) * 15]:
            web = Web(table)
            for _ in range(12):
                k = source.randrange(len(web))
                old = web.twin()
                why = "granted"
                if greatest_tie(slow_turned(old.table(), k)) > 50:
                    why = "turning"
                else:
                    try:
                        if len(both_sides(old, k).shared(old.bud(k))) > MOST_TERMS:
                            why = "terms"
                    except Great:
                        why = "wide"
                counts[why] += 1
                if why == "granted":
                    web.exchange(k)
                else:
                    with self.assertRaises(Great):
                        web.exchange(k)
        self.assertGreaterEqual(min(counts.values()), 5, counts)


class ByTurnsTest(unittest.TestCase):
    def pairs(self, tied):
        """Tables in which the buds i and j have ties that multiplied are so."""
        for there, back in itertools.product(range(1, -tied + 1), repeat=2):
            if there * back == -tied:
                for sign in (1, -1):
                    yield tree(2, (0, 1, sign * there, -sign * back)), 0, 1
                    yield tree(2, (0, 1, sign * there, -sign * back)) + ((1, -1), (0, 2)), 1, 0
                    yield tree(3, (0, 2, sign * there, -sign * back)) + ((1, 1, 1),), 2, 0
                    yield tree(3, (1, 2, sign * there, -sign * back), (0, 1, 1, -1)), 1, 2

    def check_back(self, table, i, j, length):
        web = Web(table)
        for step in range(1, length + 1):
            web.exchange((i, j)[(step - 1) % 2])
            order = web.alike(Web(table))
            self.assertEqual(order is not None, step == length, (table, step))
        wanted = list(range(len(web)))
        if length == 5:
            wanted[i], wanted[j] = j, i
            self.assertEqual((web.bud(i), web.bud(j)), (letter(len(table), j), letter(len(table), i)))
        else:
            self.assertEqual(web, Web(table))
            self.assertEqual((web.hues(), web.leans()), (Web(table).hues(), Web(table).leans()))
        self.assertEqual(order, tuple(wanted))

    def test_without_a_tie_in_both_orders(self):
        for table in (((0, 0), (0, 0)), ((0, 0), (0, 0), (1, -2), (3, 1)), tree(3, (0, 1, 1, -1)),
                      tree(4, (0, 2, 2, -1), (1, 2, 1, -1), (1, 3, 1, -1))):
            for i, j in itertools.permutations(range(len(table[0])), 2):
                if table[i][j] == 0:
                    one, other = Web(table), Web(table)
                    one.walk([i, j])
                    other.walk([j, i])
                    self.assertEqual(all_of(one), all_of(other))
                    self.check_back(table, i, j, 4)

    def test_behind_five_six_and_eight(self):
        for tied, length in ((-1, 5), (-2, 6), (-3, 8)):
            for table, i, j in self.pairs(tied):
                with self.subTest((table, i, j)):
                    self.check_back(table, i, j, length)

    def test_never_at_four_and_beyond(self):
        for tied in (-4, -5, -6, -12):
            for table, i, j in self.pairs(tied):
                web = Web(table)
                seed = first_seed(table[:len(web)])
                begun = sorted(web.leans())
                for step in range(60):
                    try:
                        web.exchange((i, j)[step % 2])
                    except Great:
                        break
                    self.assertIsNone(web.alike(Web(table)))
                    seed = turned_seed(seed, (i, j)[step % 2])
                    self.assertNotEqual(sorted(seed[2]), begun)
                self.assertGreaterEqual(step, 2)

    def test_leans_never_come_back_at_four_and_beyond(self):
        for table in ENDLESS[:5]:
            seed = first_seed(table[:2])
            seen = {seed[2]}
            for step in range(60):
                seed = turned_seed(seed, step % 2)
                self.assertNotIn(seed[2], seen)
                seen.add(seed[2])


class PutOtherwiseTest(unittest.TestCase):
    def walks(self, source, tables, steps):
        for table in tables:
            table = with_roots(source, table, source.randint(0, 2), 1)
            yield table, [source.randrange(len(table[0])) for _ in range(steps)]

    def test_opposite(self):
        source = random.Random(68)
        for table, walk in self.walks(source, [table for tables in LETTERED.values() for table in tables], 8):
            one, other = Web(table), Web(opposite(table))
            one.walk(walk)
            other.walk(walk)
            self.assertEqual(one.buds(), other.buds())
            self.assertEqual(opposite(one.table()), other.table())

    def test_reordered(self):
        source = random.Random(69)
        for table, walk in self.walks(source, [table for tables in LETTERED.values() for table in tables], 8):
            many = len(table[0])
            order = tuple(source.sample(range(many), many))
            where = order + tuple(range(many, len(table)))
            one, other = Web(table), Web(reordered(table, order))
            one.walk([order[place] for place in walk])
            other.walk(walk)
            for place in range(many):
                renamed = Sum(len(table), [(tuple(powers[at] for at in where), count)
                                           for powers, count in one.bud(order[place]).terms()])
                self.assertEqual(other.bud(place), renamed)
            self.assertEqual(other.table(), reordered(one.table(), order))

    def test_beside(self):
        source = random.Random(70)
        pairs = [(TWO, ((0, 1), (-2, 0), (1, 1))), (ONE + ((2,),), RING + ((1, 0, -1),)),
                 (((0, 3), (-1, 0), (1, 2)), TWO + ((0, 1), (-1, 0))), (ONE, ONE)]
        for left, right in pairs:
            for one, other in ((left, right), (right, left)):
                whole = Web(beside(one, other))
                near, far = Web(one), Web(other)
                for _ in range(12):
                    place = source.randrange(len(whole))
                    whole.exchange(place)
                    if place < len(near):
                        near.exchange(place)
                    else:
                        far.exchange(place - len(near))
                buds, roots, more = len(near), near.places() - len(near), far.places() - len(far)
                for place in range(buds):
                    wanted = [(powers[:buds] + (0,) * len(far) + powers[buds:] + (0,) * more, count)
                              for powers, count in near.bud(place).terms()]
                    self.assertEqual(whole.bud(place).terms(), sorted(wanted, reverse=True))
                for place in range(len(far)):
                    wanted = [((0,) * buds + powers[:len(far)] + (0,) * roots + powers[len(far):], count)
                              for powers, count in far.bud(place).terms()]
                    self.assertEqual(whole.bud(buds + place).terms(), sorted(wanted, reverse=True))
                self.assertEqual(whole.table(), beside(near.table(), far.table()))


if __name__ == "__main__":
    unittest.main()
