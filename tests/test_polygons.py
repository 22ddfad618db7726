"""Polygons: cuts, their tables, flips, and the worths of chords."""

import fractions
import itertools
import random
import unittest

from budwright.errors import BadCut
from budwright.kinds import kind
from budwright.polygons import cut_table, cuts, flip, flipped, is_cut, lengths
from budwright.tables import reordered, turned
from budwright.walks import walked
from budwright.webs import Web
from samples import NO_NUMBERS

CORNERS = (4, 5, 6, 7)
COUNTS = {4: 2, 5: 5, 6: 14, 7: 42}
NO_CORNERS = (3, 8, 0, 1, 2, -1, -4, 9, 100, 10 ** 20, *NO_NUMBERS)
NO_CUTS = (
    (4, ()), (4, ((2, 0),)), (4, ((0, 1),)), (4, ((0, 3),)), (4, ((1, 2),)), (4, ((0, 0),)), (4, ((0, 4),)),
    (4, ((-1, 1),)), (4, ((1, 5),)), (4, ((0, 2), (1, 3))), (4, ((0, 2), (0, 2))), (4, ((-2, 0),)),
    (5, ((0, 2),)), (5, ((0, 2), (1, 3))), (5, ((0, 3), (0, 2))), (5, ((0, 2), (0, 2))), (5, ((0, 2), (3, 0))),
    (5, ((0, 2), (0, 4))), (5, ((0, 1), (0, 2))), (5, ((0, 2), (0, 3), (0, 4))), (5, ((0, 2), (0, 3), (0, 3))),
    (5, ((0, 2), (2, 5))), (5, ((1, 3), (2, 4))), (5, ()),
    (6, ((0, 2), (0, 3))), (6, ((0, 2), (0, 3), (1, 5))), (6, ((0, 2), (2, 4), (0, 4))), (6, ((0, 3), (1, 3), (2, 5))),
    (6, ((0, 2), (0, 3), (0, 5))), (6, ((0, 3), (1, 4), (2, 5))), (6, ((0, 2), (0, 2), (0, 4))),
    (7, ((0, 2), (0, 3), (0, 4))), (7, ((0, 2), (0, 3), (0, 4), (0, 6))), (7, ((0, 2), (0, 3), (0, 5), (4, 6))),
    (7, ((0, 2), (0, 3), (0, 4), (0, 5), (0, 5))), (7, ((0, 2), (0, 3), (0, 5), (0, 4))),
)


def slow_chords(corners):
    return [(low, high) for low, high in itertools.combinations(range(corners), 2)
            if (high - low) % corners not in (1, corners - 1)]


def slow_crosses(one, other):
    """Whether just one end of the other lies strictly between both ends of the one, and none on them."""
    if set(one) & set(other):
        return False
    return sum(one[0] < end < one[1] for end in other) == 1


def slow_cuts(corners):
    return [row for row in itertools.combinations(slow_chords(corners), corners - 3)
            if not any(slow_crosses(one, other) for one, other in itertools.combinations(row, 2))]


def slow_table(corners, chords):
    """The table, part by part, as the document tells it."""
    edges = {(low, high) for low, high in itertools.combinations(range(corners), 2)
             if (high - low) % corners in (1, corners - 1)} | set(chords)
    ties = {(i, j): 0 for i in chords for j in chords}
    parts = 0
    for x, y, z in itertools.combinations(range(corners), 3):
        ring = [(x, y), (y, z), (x, z)]
        if edges.issuperset(ring):
            parts += 1
            for i, j in zip(ring, ring[1:] + ring[:1]):
                if i in chords and j in chords:
                    ties[i, j] += 1
                    ties[j, i] -= 1
    assert parts == corners - 2
    return tuple(tuple(ties[i, j] for j in chords) for i in chords)


def each_cut():
    for corners in CORNERS:
        for chords in cuts(corners):
            yield corners, chords


def some_parts(source, many, figures=1):
    parts = []
    for _ in range(many):
        part = fractions.Fraction(source.randint(1, 10 ** figures), source.randint(1, 10 ** figures))
        parts.append((part.numerator, part.denominator))
    return parts


class CutsTest(unittest.TestCase):
    def test_by_hand(self):
        self.assertEqual(cuts(4), [((0, 2),), ((1, 3),)])
        self.assertEqual(cuts(corners=5), [((0, 2), (0, 3)), ((0, 2), (2, 4)), ((0, 3), (1, 3)), ((1, 3), (1, 4)),
                                           ((1, 4), (2, 4))])

    def test_all_of_them_rising(self):
        for corners, many in COUNTS.items():
            told = cuts(corners)
            self.assertIs(type(told), list)
            self.assertEqual(len(told), many)
            self.assertEqual(told, sorted(told))
            self.assertEqual(told, slow_cuts(corners))
            for chords in told:
                self.assertEqual([type(thing) for thing in (chords, *chords)], [tuple] * (corners - 2))

    def test_told_lists_are_new_ones(self):
        told = cuts(5)
        told.clear()
        self.assertEqual(len(cuts(5)), 5)

    def test_bad_corners(self):
        for corners in NO_CORNERS:
            with self.subTest(corners), self.assertRaises(BadCut):
                cuts(corners)


class IsCutTest(unittest.TestCase):
    def test_cuts(self):
        for corners, chords in each_cut():
            self.assertIs(is_cut(corners, chords), True)
        self.assertIs(is_cut(corners=4, chords=((1, 3),)), True)

    def test_no_cuts(self):
        for corners, chords in NO_CUTS:
            with self.subTest((corners, chords)):
                self.assertIs(is_cut(corners, chords), False)

    def test_all_rows_of_chords(self):
        for corners in (4, 5, 6):
            found = [row for many in range(corners) for row in itertools.product(slow_chords(corners), repeat=many)
                     if many <= 3 and is_cut(corners, row)]
            self.assertEqual(found, slow_cuts(corners))

    def test_all_pairs_of_numbers(self):
        pairs = list(itertools.product(range(-2, 7), repeat=2))
        self.assertEqual([pair for pair in pairs if is_cut(4, (pair,))], [(0, 2), (1, 3)])
        found = [row for row in itertools.product(pairs, repeat=2) if is_cut(5, row)]
        self.assertEqual(found, slow_cuts(5))

    def test_cuts_of_other_corners(self):
        for corners, chords in each_cut():
            for other in (*NO_CORNERS, *CORNERS):
                if type(other) is not int or other != corners:
                    self.assertIs(is_cut(other, chords), False)

    def test_each_cut_bent(self):
        for corners, chords in each_cut():
            bent = [chords + chords[-1:], chords[:-1], chords + ((0, 1),)]
            bent += [chords[::-1]] if corners > 4 else []
            for at, (low, high) in enumerate(chords):
                for other in ((high, low), (low, low + 1), (0, corners - 1), (low, low), (low, corners), (-1, high),
                              (low - corners, high)):
                    bent.append(chords[:at] + (other,) + chords[at + 1:])
                if corners > 4:
                    bent.append(chords[:at] + (chords[at - 1],) + chords[at + 1:])
            for row in bent:
                self.assertIs(is_cut(corners, row), False, row)


class TableTest(unittest.TestCase):
    def test_by_hand(self):
        self.assertEqual(cut_table(4, ((0, 2),)), ((0,),))
        self.assertEqual(cut_table(5, ((0, 2), (0, 3))), ((0, -1), (1, 0)))
        self.assertEqual(cut_table(corners=5, chords=((0, 2), (2, 4))), ((0, 1), (-1, 0)))
        self.assertEqual(cut_table(6, ((0, 2), (0, 4), (2, 4))), ((0, -1, 1), (1, 0, -1), (-1, 1, 0)))

    def test_by_counting_parts(self):
        for corners, chords in each_cut():
            self.assertEqual(cut_table(corners, chords), slow_table(corners, chords))

    def test_kinds(self):
        for corners, chords in each_cut():
            told = kind(cut_table(corners, chords))
            self.assertEqual(told[:2], ("finite", (f"A{corners - 3}",)))
            self.assertEqual(told[3], COUNTS[corners])

    def test_refused(self):
        check_refused(self, cut_table)


def check_refused(test, deed, *more):
    """Whether what is no cut is refused, whatever is handed in behind it."""
    for corners, chords in NO_CUTS:
        with test.subTest((corners, chords)), test.assertRaises(BadCut):
            deed(corners, chords, *more)
    for corners in NO_CORNERS:
        with test.subTest(corners), test.assertRaises(BadCut):
            deed(corners, ((0, 2),), *more)


class FlipTest(unittest.TestCase):
    def test_by_hand(self):
        self.assertEqual(flipped(4, ((0, 2),), (0, 2)), (1, 3))
        self.assertEqual(flip(4, ((0, 2),), (0, 2)), ((1, 3),))
        self.assertEqual(flipped(corners=5, chords=((0, 2), (0, 3)), chord=(0, 2)), (1, 3))
        self.assertEqual(flip(corners=5, chords=((0, 2), (0, 3)), chord=(0, 2)), ((0, 3), (1, 3)))
        self.assertEqual(flipped(6, ((0, 2), (0, 4), (2, 4)), (0, 4)), (2, 5))

    def test_twice_is_none(self):
        for corners, chords in each_cut():
            for chord in chords:
                fresh, behind = flipped(corners, chords, chord), flip(corners, chords, chord)
                self.assertEqual((type(fresh), type(behind)), (tuple, tuple))
                self.assertIs(is_cut(corners, behind), True)
                self.assertEqual(set(behind) - set(chords), {fresh})
                self.assertEqual(set(chords) - set(behind), {chord})
                self.assertEqual(flipped(corners, behind, fresh), chord)
                self.assertEqual(flip(corners, behind, fresh), chords)

    def test_the_only_other_cut_with_the_other_chords(self):
        for corners in CORNERS:
            told = cuts(corners)
            for chords in told:
                for chord in chords:
                    others = [row for row in told if set(row) & set(chords) == set(chords) - {chord}]
                    self.assertEqual(others, [flip(corners, chords, chord)])

    def test_tables_turn(self):
        for corners, chords in each_cut():
            for place, chord in enumerate(chords):
                fresh, behind = flipped(corners, chords, chord), flip(corners, chords, chord)
                stays = list(chords)
                stays[place] = fresh
                order = tuple(stays.index(other) for other in behind)
                self.assertEqual(reordered(turned(cut_table(corners, chords), place), order),
                                 cut_table(corners, behind))

    def test_refused(self):
        check_refused(self, flipped, (0, 2))
        check_refused(self, flip, (0, 2))

    def test_chords_that_are_not_in_it(self):
        for corners, chords in each_cut():
            for pair in itertools.product(range(-1, corners + 1), repeat=2):
                if pair not in chords:
                    for deed in (flipped, flip):
                        with self.assertRaises(BadCut):
                            deed(corners, chords, pair)
        for chord in (None, 0, (), (0,), (0, 2, 3), ((0, 2),), (False, 2), [0, 2], "02"):
            for deed in (flipped, flip):
                with self.assertRaises(BadCut):
                    deed(5, ((0, 2), (0, 3)), chord)


class LengthsTest(unittest.TestCase):
    def test_by_hand(self):
        self.assertEqual(lengths(4, ((0, 2),), [(2, 3)]), {(0, 2): (2, 3), (1, 3): (3, 1)})
        self.assertEqual(lengths(corners=5, chords=((0, 2), (0, 3)), parts=[(1, 1), (1, 1)]),
                         {(0, 2): (1, 1), (0, 3): (1, 1), (1, 3): (2, 1), (1, 4): (3, 1), (2, 4): (2, 1)})

    def test_each_four_corners(self):
        source = random.Random(101)
        for corners, chords in each_cut():
            parts = some_parts(source, corners - 3)
            told = lengths(corners, chords, list(parts))
            self.assertIs(type(told), dict)
            self.assertEqual(list(told), slow_chords(corners))
            self.assertEqual([told[chord] for chord in chords], parts)
            for top, under in told.values():
                part = fractions.Fraction(top, under)
                self.assertEqual((top, under), (part.numerator, part.denominator))
                self.assertGreater(part, 0)

            def worth(low, high):
                return fractions.Fraction(*told.get((low, high), (1, 1)))

            for a, b, c, d in itertools.combinations(range(corners), 4):
                self.assertEqual(worth(a, c) * worth(b, d), worth(a, b) * worth(c, d) + worth(b, c) * worth(a, d))

    def test_flips_are_exchanges(self):
        source = random.Random(102)
        for corners, chords in each_cut():
            parts = some_parts(source, corners - 3)
            told = lengths(corners, chords, parts)
            standing = list(chords)
            web = Web(cut_table(corners, chords))
            walk = []
            for _ in range(8):
                place = source.randrange(len(chords))
                standing[place] = flipped(corners, tuple(sorted(standing)), standing[place])
                web.exchange(place)
                walk.append(place)
                self.assertEqual([bud.worth(parts) for bud in web.buds()], [told[chord] for chord in standing])
            self.assertEqual(walked(cut_table(corners, chords), walk, parts), [told[chord] for chord in standing])

    def test_from_another_cut_the_same(self):
        source = random.Random(103)
        for corners in CORNERS:
            told = lengths(corners, cuts(corners)[0], some_parts(source, corners - 3, 2))
            for chords in cuts(corners):
                self.assertEqual(lengths(corners, chords, [told[chord] for chord in chords]), told)

    def test_long_parts_are_not_refused(self):
        source = random.Random(104)
        for corners in CORNERS:
            parts = some_parts(source, corners - 3, 30)
            told = lengths(corners, cuts(corners)[-1], parts)
            self.assertEqual([told[chord] for chord in cuts(corners)[-1]], parts)

    def test_the_handed_list_stays_and_is_not_kept(self):
        parts = [(1, 2), (3, 4)]
        told = lengths(5, ((0, 2), (0, 3)), parts)
        self.assertEqual(parts, [(1, 2), (3, 4)])
        before = dict(told)
        parts[0] = (7, 1)
        self.assertEqual(told, before)
        told.clear()
        self.assertEqual(lengths(5, ((0, 2), (0, 3)), [(1, 2), (3, 4)]), before)

    def test_refused(self):
        for many in range(6):
            check_refused(self, lengths, [(1, 1)] * many)


if __name__ == "__main__":
    unittest.main()
