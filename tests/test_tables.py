"""Tables: judged, weighed, turned, reordered, put side by side."""

import itertools
import math
import random
import unittest

from budwright.errors import BadOrder, BadTable, BadText, Full, Great, NoPlace, Uneven
from budwright.tables import (barred, beside, opposite, principal, read_table, reordered, table_text, turned,
                              weights)
from samples import EVEN, FOUR, NO_TABLES, ONE, RING, TALL, TWO, UNEVEN, is_barring, slow_turned, some_even_table


def any_barring(table):
    many = range(len(table[0]))
    rings = [ring for length in (2, 3, 4) for ring in itertools.product(many, repeat=length)]
    return any(is_barring(table, ring) for ring in rings)


ALL = (
    ("weights", weights), ("turned", lambda table: turned(table, 0)),
    ("turned at no bud", lambda table: turned(table, 99)), ("turned at text", lambda table: turned(table, "x")),
    ("reordered", lambda table: reordered(table, (0,))), ("reordered by none", lambda table: reordered(table, None)),
    ("beside, one", lambda table: beside(table, FOUR)), ("beside, one whole", lambda table: beside(table, ())),
    ("beside, other", lambda table: beside(FOUR, table)), ("principal", principal), ("opposite", opposite),
    ("table_text", table_text),
)


class JudgingTest(unittest.TestCase):
    def test_what_is_no_table_is_refused_by_all(self):
        for table in NO_TABLES:
            for name, deed in ALL + (("barred", barred),):
                with self.subTest((name, table)), self.assertRaises(BadTable):
                    deed(table)

    def test_uneven_tables_are_refused_by_all_but_barred(self):
        for table in UNEVEN:
            for name, deed in ALL:
                with self.subTest((name, table)), self.assertRaises(Uneven) as caught:
                    deed(table)
                self.assertTrue(is_barring(table, caught.exception.ring))
            self.assertTrue(is_barring(table, barred(table)))

    def test_barred_is_none_of_even_tables(self):
        for table in EVEN:
            self.assertIsNone(barred(table=table))

    def test_barred_of_many_tables(self):
        source = random.Random(41)
        counts = [0, 0]
        for _ in range(1500):
            many = source.randint(1, 4)
            table = [list(row) for row in some_even_table(source, many, source.randint(0, 2))]
            if source.random() < 0.6:
                table[source.randrange(many)][source.randrange(many)] = source.randint(-4, 4)
            table = tuple(map(tuple, table))
            found = barred(table)
            counts[found is None] += 1
            if found is None:
                self.assertFalse(any_barring(table))
            else:
                self.assertTrue(is_barring(table, found))
        self.assertGreater(min(counts), 100)

    def test_one_and_other_are_looked_at_whole_one_by_one(self):
        with self.assertRaises(Uneven):
            beside(((1,),), ())
        with self.assertRaises(BadTable):
            beside((), ((1,),))
        with self.assertRaises(BadTable):
            beside(ONE, [])
        with self.assertRaises(Uneven):
            beside(FOUR, ((1,),))

    def test_roots_do_not_bar(self):
        self.assertIsNone(barred(((0,), (1,), (-50,))))
        self.assertIsNone(barred(((0, 1), (-1, 0), (7, 7))))


class WeightsTest(unittest.TestCase):
    def test_weights(self):
        cases = (
            (ONE, (1,)), (TWO, (1, 1)), (TALL, (1, 2)), (RING, (1, 1, 1)), (FOUR, (1, 1, 1, 1)),
            (((0, 0), (0, 0)), (1, 1)), (((0, 4), (-6, 0)), (3, 2)), (((0, -1), (3, 0)), (3, 1)),
            (((0, 1, 0), (-2, 0, 1), (0, -2, 0)), (4, 2, 1)),
            (((0, 0, 2, 0), (0, 0, 0, -3), (-1, 0, 0, 0), (0, 1, 0, 0)), (1, 1, 2, 3)),
            (((0, 50, 0, 0), (-49, 0, 50, 0), (0, -49, 0, 50), (0, 0, -49, 0)),
             (49 ** 3, 49 ** 2 * 50, 49 * 50 ** 2, 50 ** 3)),
        )
        for table, wanted in cases:
            with self.subTest(table):
                self.assertEqual(weights(table), wanted)
                self.assertIs(type(weights(table)), tuple)

    def test_weights_of_many_tables(self):
        source = random.Random(42)
        for _ in range(400):
            table = some_even_table(source, source.randint(1, 4), source.randint(0, 3))
            found = weights(table)
            buds = range(len(table[0]))
            self.assertTrue(all(found[i] * table[i][j] == -found[j] * table[j][i] for i in buds for j in buds))
            lots = {bud: {bud} for bud in buds}
            for i, j in itertools.product(buds, buds):
                if table[i][j]:
                    joined = lots[i] | lots[j]
                    lots.update({bud: joined for bud in joined})
            for bud in buds:
                self.assertEqual(math.gcd(*[found[other] for other in lots[bud]]), 1)
                self.assertGreater(found[bud], 0)


class TurningTest(unittest.TestCase):
    def test_turned(self):
        self.assertEqual(turned(TWO, 0), ((0, -1), (1, 0)))
        self.assertEqual(turned(((0, 1, 0), (-1, 0, 1), (0, -1, 0)), 1), ((0, -1, 1), (1, 0, -1), (-1, 1, 0)))
        self.assertEqual(turned(TALL, place=0), ((0, -2), (1, 0), (-1, 2), (3, 50)))
        self.assertEqual(turned(TALL, 1), ((0, -2), (1, 0), (1, 0), (-3, -50)))
        self.assertEqual(turned(((0, 2), (-1, 0), (-3, 4)), 1), ((0, -2), (1, 0), (-3, -4)))
        self.assertEqual(turned(((0, 2), (-1, 0), (-3, -4)), 1), ((0, -2), (1, 0), (-7, 4)))

    def test_turned_of_many_tables(self):
        source = random.Random(43)
        for _ in range(400):
            table = some_even_table(source, source.randint(1, 4), source.randint(0, 4), 2)
            for place in range(len(table[0])):
                wanted = slow_turned(table, place)
                if max(abs(tie) for row in wanted for tie in row) > 50:
                    with self.assertRaises(Great):
                        turned(table, place)
                    continue
                self.assertEqual(turned(table, place), wanted)
                self.assertEqual(turned(wanted, place), table)
                self.assertEqual(weights(wanted), weights(table))

    def test_no_place(self):
        for table in (ONE, TALL, FOUR):
            many = len(table[0])
            for place in (-1, many, many + 1, 10 ** 20, -many):
                with self.assertRaises(NoPlace) as caught:
                    turned(table, place)
                self.assertEqual(caught.exception.place, place)

    def test_great_beyond_most_tie(self):
        for last, sign in itertools.product((0, 1), (1, -1)):
            table = ((0, 7 * sign), (-7 * sign, 0), (7 * sign, last * sign))
            self.assertEqual(turned(table, 0)[2], (-7 * sign, (49 + last) * sign))
            with self.assertRaises(Great):
                turned(((0, 7 * sign), (-7 * sign, 0), (7 * sign, 2 * sign)), 0)
        wide = ((0, 5, 0), (-5, 0, 10), (0, -10, 0))
        self.assertEqual(turned(wide, 1)[0], (0, -5, 50))
        with self.assertRaises(Great):
            turned(((0, 3, 0), (-3, 0, 17), (0, -17, 0)), 1)

    def test_no_place_goes_ahead_of_great(self):
        with self.assertRaises(NoPlace):
            turned(((0, 3, 0), (-3, 0, 17), (0, -17, 0)), 3)


class OrderTest(unittest.TestCase):
    def test_reordered(self):
        self.assertEqual(reordered(TALL, (1, 0)), ((0, -1), (2, 0), (0, 1), (50, -3)))
        self.assertEqual(reordered(TALL, (0, 1)), TALL)
        self.assertEqual(reordered(((0, 1, 2), (-1, 0, 3), (-2, -3, 0)), order=(2, 0, 1)),
                         ((0, -2, -3), (2, 0, 1), (3, -1, 0)))

    def test_reordered_of_many_tables(self):
        source = random.Random(44)
        for _ in range(200):
            table = some_even_table(source, source.randint(1, 4), source.randint(0, 4))
            many = len(table[0])
            order = tuple(source.sample(range(many), many))
            found = reordered(table, order)
            for p, q in itertools.product(range(many), repeat=2):
                self.assertEqual(found[p][q], table[order[p]][order[q]])
            for root, q in itertools.product(range(many, len(table)), range(many)):
                self.assertEqual(found[root][q], table[root][order[q]])
            back = tuple(order.index(bud) for bud in range(many))
            self.assertEqual(reordered(found, back), table)

    def test_bad_orders(self):
        for order in ((), (0,), (0, 0), (1, 1), (0, 2), (-1, 0), (0, 1, 2), (0, 1, 0), (False, True), (0, "1"),
                      (0, None), [0, 1], None, "01", (0.0, 1.0)):
            with self.subTest(order), self.assertRaises(BadOrder):
                reordered(TALL, order)


class BesideTest(unittest.TestCase):
    def test_beside(self):
        self.assertEqual(beside(TALL, ((0,), (9,))),
                         ((0, 2, 0), (-1, 0, 0), (0, 0, 0), (1, 0, 0), (-3, 50, 0), (0, 0, 9)))
        self.assertEqual(beside(other=TWO, one=ONE), ((0, 0, 0), (0, 0, 1), (0, -1, 0)))

    def test_full(self):
        for one, other in ((FOUR, ONE), (TWO, RING), (((0,),) + ((1,),) * 4, ((0,), (1,))), (FOUR + FOUR, FOUR)):
            for first, second in ((one, other), (other, one)):
                with self.assertRaises(Full) as caught:
                    beside(first, second)
                self.assertEqual(caught.exception.most, 4)

    def test_just_four(self):
        self.assertEqual(len(beside(TWO, TWO)), 4)
        self.assertEqual(len(beside(RING, ONE)), 4)
        self.assertEqual(len(beside(TALL, TALL)), 8)
        self.assertEqual(len(beside(((0,),) + ((1,),) * 4, ONE)), 6)

    def test_principal(self):
        self.assertEqual(principal(TALL), ((0, 2), (-1, 0), (1, 0), (0, 1)))
        self.assertEqual(principal(ONE), ((0,), (1,)))
        self.assertEqual(principal(FOUR), FOUR + ((1, 0, 0, 0), (0, 1, 0, 0), (0, 0, 1, 0), (0, 0, 0, 1)))

    def test_opposite(self):
        self.assertEqual(opposite(TALL), ((0, -2), (1, 0), (-1, 0), (3, -50)))
        self.assertEqual(opposite(ONE), ONE)


class TextTest(unittest.TestCase):
    def test_written(self):
        self.assertEqual(table_text(TWO), "0,1;-1,0")
        self.assertEqual(table_text(TALL), "0,2;-1,0;1,0;-3,50")
        self.assertEqual(table_text(ONE), "0")

    def test_there_and_back(self):
        source = random.Random(45)
        tables = [some_even_table(source, source.randint(1, 4), source.randint(0, 4)) for _ in range(200)]
        for table in EVEN + tuple(tables):
            self.assertEqual(read_table(text=table_text(table)), table)

    def test_bad_texts(self):
        for text in (
            "", " ", ";", ",", "0;", ";0", "0,1;-1,0;", "0,1;;-1,0", "0,;0,0", ",0", "0, 1;-1,0", "0,1; -1,0", "0,1 ",
            "-0", "00", "0,01;-1,0", "+1", "--1", "-", "0,1;-,0", "a", "0.0", "1_0", "0x1", "0\n", "1000000",
            "-1000000", "0,1;-01,0", "(0,)", "\u0660", "\u00b2", "9" * 5000,
        ):
            with self.subTest(text), self.assertRaises(BadText) as caught:
                read_table(text)
            self.assertEqual(caught.exception.at, 0)

    def test_what_is_read_but_no_table(self):
        for text in ("0,1", "0,1;-1", "0,51;-51,0", "999999", "-999999", "0;0;0;0;0;0", "0,0,0,0,0"):
            with self.subTest(text), self.assertRaises(BadTable):
                read_table(text)

    def test_what_is_read_but_uneven(self):
        for table in UNEVEN:
            text = ";".join(",".join(map(str, row)) for row in table)
            with self.subTest(text), self.assertRaises(Uneven) as caught:
                read_table(text)
            self.assertTrue(is_barring(table, caught.exception.ring))

    def test_a_bad_text_goes_first(self):
        with self.assertRaises(BadText):
            read_table("5,51;;7")


if __name__ == "__main__":
    unittest.main()
