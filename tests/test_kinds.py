"""Kinds: letters of the finite ones, walks that show the endless ones."""

import itertools
import random
import unittest

from budwright.kinds import endless_holds, kind
from budwright.tables import barred, beside, opposite, reordered, turned
from samples import (COUNTED, ENDLESS, FOUR, LETTERED, NO_NUMBERS, ONE, TWO, greatest_tie, slow_turned,
                     some_even_table, tree, with_roots)


def turned_often(source, table, steps):
    """The table turned at some buds."""
    for _ in range(steps):
        table = turned(table, source.randrange(len(table[0])))
    return table


def slow_shown(table, walk, one, other):
    """Whether the walk leads to two buds whose ties multiplied are -4 or beyond."""
    rows = table[:len(table[0])]
    for place in walk:
        rows = slow_turned(rows, place)
    return rows[one][other] * rows[other][one] <= -4


def slow_is_endless(table):
    """Whether some table that turnings bring has two buds whose ties multiplied are -4 or beyond."""
    seen, waiting = {table}, [table]
    while waiting:
        rows = waiting.pop(0)
        if any(rows[i][j] * rows[j][i] <= -4 for i, j in itertools.combinations(range(len(rows)), 2)):
            return True
        for other in [slow_turned(rows, bud) for bud in range(len(rows))]:
            if other not in seen:
                seen.add(other)
                waiting.append(other)
    return False


class FiniteTest(unittest.TestCase):
    def test_each_letter(self):
        for letters, (buds, webs, rounds) in COUNTED.items():
            for table in LETTERED[letters]:
                with self.subTest(table):
                    self.assertEqual(kind(table), ("finite", (letters,), buds, webs))
                    self.assertEqual(kind(table=opposite(table)), ("finite", (letters,), buds, webs))

    def test_turned_reordered_and_with_roots(self):
        source = random.Random(81)
        for letters, (buds, webs, rounds) in COUNTED.items():
            for table in LETTERED[letters]:
                for _ in range(6):
                    other = turned_often(source, table, source.randint(1, 12))
                    other = reordered(other, tuple(source.sample(range(len(other)), len(other))))
                    other = with_roots(source, other, source.randint(0, 4), 50)
                    with self.subTest(other):
                        self.assertEqual(kind(other), ("finite", (letters,), buds, webs))

    def test_several_lots(self):
        source = random.Random(82)
        names = [name for many in (2, 3, 4) for name in itertools.combinations_with_replacement(sorted(COUNTED), many)
                 if sum(int(letters[1]) for letters in name) <= 4]
        self.assertEqual(len(names), 17)
        for letters in names:
            parts = [source.choice(LETTERED[name]) for name in source.sample(letters, len(letters))]
            table = parts[0]
            for part in parts[1:]:
                table = beside(table, part)
            table = reordered(table, tuple(source.sample(range(len(table)), len(table))))
            table = turned_often(source, table, 6)
            buds = sum(COUNTED[name][0] for name in letters)
            webs = 1
            for name in letters:
                webs *= COUNTED[name][1]
            with self.subTest(table):
                self.assertEqual(kind(with_roots(source, table, 2, 9)), ("finite", letters, buds, webs))

    def test_kinds_of_values(self):
        told = kind(beside(TWO, ONE))
        self.assertEqual(told, ("finite", ("A1", "A2"), 7, 10))
        self.assertIs(type(told), tuple)
        self.assertIs(type(told[1]), tuple)
        told = kind(ENDLESS[5])
        self.assertEqual([type(thing) for thing in told], [str, tuple, int, int])


class EndlessTest(unittest.TestCase):
    def check_shown(self, table):
        told = kind(table)
        with self.subTest(table):
            self.assertEqual((told[0], len(told)), ("endless", 4))
            word, walk, one, other = told
            self.assertIs(type(walk), tuple)
            self.assertLessEqual(len(walk), 60)
            self.assertTrue(all(type(bud) is int and 0 <= bud < len(table[0]) for bud in walk + (one, other)))
            self.assertTrue(slow_shown(table, walk, one, other))
            self.assertIs(endless_holds(table, walk, one, other), True)
            self.assertIs(endless_holds(table, walk, other, one), True)

    def test_shown(self):
        for table in ENDLESS:
            self.check_shown(table)
            self.check_shown(opposite(table))

    def test_shown_beside_others_and_with_roots(self):
        for table in ENDLESS:
            if len(table[0]) < 4:
                self.check_shown(beside(ONE, table))
                self.check_shown(beside(table, ONE + ((50,),)))
        self.check_shown(beside(ENDLESS[0], TWO))
        self.check_shown(beside(TWO, ENDLESS[0]))

    def test_of_many_tables(self):
        source = random.Random(83)
        counts = [0, 0]
        for _ in range(500):
            table = some_even_table(source, source.randint(2, 4), source.randint(0, 2), 1)
            told = kind(table)
            counts[told[0] == "endless"] += 1
            if told[0] == "endless":
                self.check_shown(table)
                continue
            # Of a finite kind, nothing that turnings bring shows anything else.
            rows = table[:len(table[0])]
            for _ in range(30):
                rows = slow_turned(rows, source.randrange(len(rows)))
                for i, j in itertools.combinations(range(len(rows)), 2):
                    self.assertGreater(rows[i][j] * rows[j][i], -4)
                    self.assertFalse(endless_holds(rows, (), i, j))
            self.assertEqual(kind(rows), told)
        self.assertGreater(min(counts), 50)

    def check_kind(self, table):
        """Whether the table's kind is as all turnings tell; tells its letters, or None."""
        told = kind(table)
        self.assertEqual(told[0] == "endless", slow_is_endless(table), table)
        if told[0] == "endless":
            self.check_shown(table)
            return None
        return told[1]

    def test_all_trees(self):
        ties = ((1, -1), (1, -2), (2, -1), (1, -3), (3, -1))
        shapes = (((0, 1),), ((0, 1), (1, 2)), ((0, 1), (1, 2), (2, 3)), ((0, 1), (0, 2), (0, 3)))
        found = []
        for shape in shapes:
            for choice in itertools.product(ties, repeat=len(shape)):
                pairs = [pair + tie for pair, tie in zip(shape, choice)]
                found.append(self.check_kind(tree(len(shape) + 1, *pairs)))
        counts = {letters[0]: found.count(letters) for letters in found if letters is not None}
        self.assertEqual(counts, {"A2": 1, "B2": 2, "G2": 2, "A3": 1, "B3": 4, "A4": 1, "B4": 4, "F4": 2, "D4": 1})

    def test_rings_of_three(self):
        ties = ((0, 0), (1, -1), (-1, 1), (1, -2), (2, -1), (-1, 2), (-2, 1), (1, -3), (-3, 1), (2, -2), (-2, 2))
        for one, two, three in itertools.product(ties, repeat=3):
            table = tree(3, (0, 1) + one, (1, 2) + two, (2, 0) + three)
            if barred(table) is None:
                self.check_kind(table)

    def test_sharp_ties(self):
        for there, back in itertools.product(range(1, 6), repeat=2):
            told = kind(((0, there), (-back, 0)))
            self.assertEqual(told[0], "finite" if there * back < 4 else "endless")
        self.assertEqual(sorted(kind(((0, 2), (-2, 0)))[2:]), [0, 1])


class EndlessHoldsTest(unittest.TestCase):
    def test_just_where_it_is_shown(self):
        source = random.Random(84)
        counts = [0, 0]
        for table in ENDLESS * 20 + FOUR_KINDS * 5:
            many = len(table[0])
            walk = tuple(source.randrange(many) for _ in range(source.randint(0, 3)))
            one, other = source.randrange(many), source.randrange(many)
            rows, fits = table[:many], True
            for place in walk:
                rows = slow_turned(rows, place)
                fits = fits and greatest_tie(rows) <= 50
            wanted = fits and rows[one][other] * rows[other][one] <= -4
            counts[wanted] += 1
            self.assertIs(endless_holds(table, walk, one, other), wanted)
        self.assertGreater(min(counts), 50)

    def test_by_name(self):
        self.assertIs(endless_holds(table=ENDLESS[0], walk=(0, 1), one=1, other=0), True)
        self.assertIs(endless_holds(ENDLESS[0], (), 0, 0), False)

    def test_what_is_no_bud(self):
        table = ENDLESS[4]
        self.assertTrue(endless_holds(table, (0, 1), 0, 1))
        for bad in (-1, -2, 2, 3, 60, 10 ** 20, *NO_NUMBERS):
            with self.subTest(bad):
                self.assertIs(endless_holds(table, (0, bad), 0, 1), False)
                self.assertIs(endless_holds(table, (bad, 0), 0, 1), False)
                self.assertIs(endless_holds(table, (0, 1), bad, 1), False)
                self.assertIs(endless_holds(table, (0, 1), 0, bad), False)

    def test_beyond_most_tie(self):
        sharp = tree(3, (0, 1, 3, -3), (1, 2, 17, -17))
        self.assertIs(endless_holds(sharp, (), 0, 1), True)
        self.assertIs(endless_holds(sharp, (0, 2), 0, 1), True)
        for walk in ((1,), (1, 1), (0, 0, 1, 1)):
            self.assertIs(endless_holds(sharp, walk, 0, 1), False)
        just = tree(3, (0, 1, 5, -5), (1, 2, 10, -10))
        self.assertIs(endless_holds(just, (1,), 0, 2), True)
        self.assertIs(endless_holds(just, (1, 1), 0, 1), True)
        # Ties of roots don't count.
        self.assertIs(endless_holds(((0, 7), (-7, 0), (7, 2)), (0, 1, 0, 1), 0, 1), True)

    def test_long_walks(self):
        self.assertIs(endless_holds(ENDLESS[0], (0, 1) * 30, 0, 1), True)
        self.assertIs(endless_holds(TWO, (0, 1) * 30, 0, 1), False)


FOUR_KINDS = (FOUR,) + LETTERED["F4"] + LETTERED["B4"] + LETTERED["A4"]


if __name__ == "__main__":
    unittest.main()
