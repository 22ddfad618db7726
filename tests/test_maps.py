"""Maps: their rows, ways through them, walks to them, and whether rows are one."""

import itertools
import random
import unittest

from budwright.errors import Endless, Great, NoPlace
from budwright.kinds import endless_holds, kind
from budwright.maps import WebMap, map_holds
from budwright.seeds import first_seed, turned_seed
from budwright.tables import beside, opposite, turned
from budwright.webs import Web
from samples import COUNTED, ENDLESS, FOUR, LETTERED, NO_NUMBERS, ONE, RING, TWO, falling, slow_turned, with_roots

FINITE = [table for tables in LETTERED.values() for table in tables]
SEVERAL = [beside(TWO, ONE), beside(ONE, ((0, 3), (-1, 0))), beside(((0, 1), (-2, 0)), TWO), beside(RING, ONE),
           beside(beside(ONE, ONE), beside(ONE, ONE))]


def slow_rows(table):
    """The map, made of webs with their sums: alike webs are one."""
    webs = [Web(table[:len(table[0])])]
    rows = []
    while len(rows) < len(webs):
        web = webs[len(rows)]
        order = tuple(sorted(range(len(web)), key=lambda bud: web.leans()[bud], reverse=True))
        ends = []
        for place in order:
            other = web.twin()
            other.exchange(place)
            found = [number for number, one in enumerate(webs) if one.alike(other) is not None]
            if not found:
                found = [len(webs)]
                webs.append(other)
            ends.append(found[0])
        rows.append(falling(web) + (tuple(ends),))
    return rows


def slow_way(rows, one, other):
    """The first of the shortest ways, all ways of each length being tried in turn."""
    ways = {one: ()}
    while other not in ways:
        for at, way in sorted(ways.items(), key=lambda pair: (len(pair[1]), pair[1])):
            for place, end in enumerate(rows[at][3]):
                if end not in ways or (len(ways[end]), ways[end]) > (len(way) + 1, way + (place,)):
                    ways[end] = way + (place,)
    return list(ways[other])


def renumbered(rows, order):
    """The rows put in another order: at place p stands row order[p]."""
    spots = {number: at for at, number in enumerate(order)}
    return [rows[number][:3] + (tuple(spots[end] for end in rows[number][3]),) for number in order]


class RowsTest(unittest.TestCase):
    def test_by_hand(self):
        self.assertEqual(WebMap(ONE).rows(), [(((1,),), ((1,),), ((0,),), (1,)), (((-1,),), ((-1,),), ((0,),), (0,))])
        self.assertEqual(WebMap(table=TWO).rows()[:3], [
            (((1, 0), (0, 1)), ((1, 0), (0, 1)), ((0, 1), (-1, 0)), (1, 2)),
            (((0, 1), (-1, 1)), ((1, 1), (-1, 0)), ((0, 1), (-1, 0)), (3, 0)),
            (((1, 0), (0, -1)), ((1, 0), (0, -1)), ((0, -1), (1, 0)), (4, 0)),
        ])

    def test_against_webs(self):
        for table in FINITE + SEVERAL:
            if kind(table)[3] <= 20 or table == FOUR:
                with self.subTest(table):
                    self.assertEqual(WebMap(table).rows(), slow_rows(table))

    def test_counts(self):
        for letters, (buds, webs, rounds) in COUNTED.items():
            for table in LETTERED[letters]:
                web_map = WebMap(table)
                self.assertEqual((len(web_map), len(web_map.rows()), len(web_map.buds())), (webs, webs, buds))
                self.assertEqual(repr(web_map), f"WebMap({webs} webs)")
                self.assertIs(bool(web_map), True)
        for table in SEVERAL:
            web_map = WebMap(table)
            self.assertEqual((len(web_map.buds()), len(web_map)), kind(table)[2:])

    def test_form(self):
        for table in FINITE + SEVERAL:
            many = len(table)
            units = tuple(tuple(int(i == j) for j in range(many)) for i in range(many))
            rows = WebMap(table).rows()
            self.assertIs(type(rows), list)
            self.assertEqual(rows[0][:3], (units, units, table))
            first_led_to = [0]
            for number, row in enumerate(rows):
                self.assertEqual([type(thing) for thing in (row,) + row], [tuple] * 5)
                leans, hues, ties, ends = row
                self.assertEqual(list(leans), sorted(set(leans), reverse=True))
                self.assertEqual((len(leans), len(hues), len(ties), len(ends)), (many,) * 4)
                first_led_to += [end for end in dict.fromkeys(ends) if end not in first_led_to]
                for place, end in enumerate(ends):
                    self.assertIn(number, rows[end][3])
                    self.assertNotEqual(number, end)
                    # But for the bud that is exchanged, the leans are the same.
                    self.assertEqual(set(leans) - set(rows[end][0]), {leans[place]})
                    other = slow_turned(ties, place)
                    self.assertEqual(sorted(tie for line in other for tie in line),
                                     sorted(tie for line in rows[end][2] for tie in line))
            self.assertEqual(first_led_to, list(range(len(rows))))
            self.assertEqual(len(set(row[0] for row in rows)), len(rows))

    def test_roots_have_no_part_in_it(self):
        source = random.Random(91)
        for table in FINITE:
            self.assertEqual(WebMap(with_roots(source, table, 3, 50)).rows(), WebMap(table).rows())

    def test_buds(self):
        self.assertEqual(WebMap(TWO).buds(), [(1, 0), (0, 1), (0, -1), (-1, 1), (-1, 0)])
        for table in FINITE:
            web_map = WebMap(table)
            leans = {lean for row in web_map.rows() for lean in row[0]}
            self.assertEqual(web_map.buds(), sorted(leans, reverse=True))

    def test_told_lists_are_new_ones(self):
        web_map = WebMap(TWO)
        rows, buds = web_map.rows(), web_map.buds()
        for told in (web_map.rows(), web_map.buds(), web_map.way(0, 3), web_map.walk_to(3)):
            self.assertIs(type(told), list)
            told.reverse()
            told.append(None)
        self.assertEqual((web_map.rows(), web_map.buds()), (rows, buds))
        self.assertEqual(web_map.way(0, 3), slow_way(rows, 0, 3))
        self.assertEqual(len(web_map), 5)


class EndlessTest(unittest.TestCase):
    def test_endless(self):
        for table in ENDLESS + (beside(ONE, ENDLESS[0]), opposite(ENDLESS[6])):
            with self.subTest(table), self.assertRaises(Endless) as caught:
                WebMap(table)
            told = caught.exception
            self.assertIs(type(told.steps), tuple)
            self.assertEqual(kind(table), ("endless", told.steps, told.one, told.other))
            self.assertTrue(endless_holds(table, told.steps, told.one, told.other))


class NumberTest(unittest.TestCase):
    def test_number_of(self):
        source = random.Random(92)
        for table in FINITE + SEVERAL:
            web_map = WebMap(table)
            for number, row in enumerate(web_map.rows()):
                leans = list(row[0])
                source.shuffle(leans)
                given = list(leans)
                self.assertEqual(web_map.number_of(given), number)
                self.assertEqual(given, leans)
                self.assertEqual(web_map.number_of(leans=tuple(leans)), number)

    def test_none(self):
        web_map = WebMap(TWO)
        for leans in ([], [(1, 0)], [(1, 0), (1, 0)], [(1, 0), (0, 1), (0, 1)], [(1, 0), (0, 1), (1, 0)],
                      [(1, 0), (-1, 0)], [(2, 0), (0, 1)], [(1,), (0,)], [(1, 0, 0), (0, 1, 0)], [(5, 5), (7, 7)]):
            self.assertIsNone(web_map.number_of(leans))
            self.assertIsNone(web_map.number_of(tuple(leans)))


class WayTest(unittest.TestCase):
    def test_the_first_of_the_shortest(self):
        for table in [LETTERED["A1"][0], TWO, RING, *LETTERED["B3"][:2], *LETTERED["G2"][:1], *SEVERAL]:
            web_map = WebMap(table)
            rows = web_map.rows()
            for one, other in itertools.product(range(len(rows)), repeat=2):
                self.assertEqual(web_map.way(one, other), slow_way(rows, one, other), (table, one, other))

    def test_of_greater_maps(self):
        source = random.Random(93)
        for table in (LETTERED["F4"][0], LETTERED["B4"][1], FOUR, LETTERED["A4"][1]):
            web_map = WebMap(table)
            rows = web_map.rows()
            for _ in range(30):
                one, other = source.randrange(len(rows)), source.randrange(len(rows))
                self.assertEqual(web_map.way(one=one, other=other), slow_way(rows, one, other))

    def test_no_place(self):
        web_map = WebMap(TWO)
        for bad in (-1, 5, 6, 10 ** 20, *NO_NUMBERS):
            for one, other in ((bad, 0), (0, bad), (bad, 99)):
                with self.subTest((one, other)), self.assertRaises(NoPlace) as caught:
                    web_map.way(one, other)
                self.assertEqual(caught.exception.place, bad)
            with self.assertRaises(NoPlace) as caught:
                web_map.walk_to(bad)
            self.assertEqual(caught.exception.place, bad)
        self.assertEqual(web_map.way(4, 4), [])


class WalkToTest(unittest.TestCase):
    def check_leads(self, table, row, walk):
        """Whether the walk leads to the row; tells whether a Web of the table refuses it."""
        self.assertLessEqual(len(walk), 60)
        seed = first_seed(table[:len(table[0])])
        for place in walk:
            seed = turned_seed(seed, place)
        self.assertEqual(tuple(sorted(seed[2], reverse=True)), row[0])
        web = Web(table)
        try:
            web.walk(walk)
        except Great:
            return True
        self.assertEqual((web.hues(), web.leans()), (list(seed[1]), list(seed[2])))
        self.assertEqual((falling(web)[0], falling(web)[1]), row[:2])
        self.assertEqual(tuple(line[:len(web)] for line in falling(web)[2]), row[2])
        return False

    def test_it_leads_a_web_there(self):
        for letters in LETTERED:
            for table in LETTERED[letters]:
                web_map = WebMap(table)
                self.assertEqual(web_map.walk_to(0), [])
                refused = [self.check_leads(table, row, web_map.walk_to(number=number))
                           for number, row in enumerate(web_map.rows())]
                # Only among the buds of F4 there are some so wide that both sides are too great.
                if letters != "F4":
                    self.assertEqual(sum(refused), 0)
                self.assertLess(sum(refused), 10)

    def test_of_several_letters(self):
        for table in SEVERAL:
            web_map = WebMap(table)
            for number, row in enumerate(web_map.rows()):
                self.assertFalse(self.check_leads(table, row, web_map.walk_to(number)))

    def test_with_roots(self):
        source = random.Random(94)
        for table in FINITE:
            table = with_roots(source, table, 2, 1)
            web_map = WebMap(table)
            rows = web_map.rows()
            for number in source.sample(range(len(web_map)), min(12, len(web_map))):
                self.check_leads(table, rows[number], web_map.walk_to(number))


class MapHoldsTest(unittest.TestCase):
    def test_the_map_with_its_rows_renumbered(self):
        source = random.Random(95)
        for table in FINITE + SEVERAL:
            rows = WebMap(table).rows()
            self.assertIs(map_holds(table, rows), True)
            self.assertIs(map_holds(table=with_roots(source, table, 2), rows=rows), True)
            for _ in range(4):
                order = [0] + source.sample(range(1, len(rows)), len(rows) - 1)
                bent = renumbered(rows, order)
                given = list(bent)
                self.assertIs(map_holds(table, given), True)
                self.assertEqual(given, bent)

    def test_another_first_row(self):
        for table in (ONE, TWO, RING, FOUR):
            rows = WebMap(table).rows()
            for first in range(1, len(rows)):
                order = [first] + [number for number in range(len(rows)) if number != first]
                self.assertIs(map_holds(table, renumbered(rows, order)), False)

    def test_rows_moved_without_new_numbers(self):
        rows = WebMap(TWO).rows()
        for order in itertools.permutations(range(1, 5)):
            if order != (1, 2, 3, 4):
                self.assertIs(map_holds(TWO, [rows[0]] + [rows[number] for number in order]), False)

    def test_one_number_bent(self):
        source = random.Random(96)
        for table in (TWO, RING, LETTERED["G2"][0], LETTERED["B3"][1]):
            rows = WebMap(table).rows()
            for number, row in enumerate(rows):
                for part, spot in itertools.product(range(3), range(len(table))):
                    line = list(row[part][spot])
                    line[source.randrange(len(line))] += source.choice((-2, -1, 1, 2))
                    thing = row[part][:spot] + (tuple(line),) + row[part][spot + 1:]
                    self.check_bent(table, rows, number, row[:part] + (thing,) + row[part + 1:])
                for spot in range(len(table)):
                    for end in (-1, row[3][spot] - len(rows), row[3][spot] + 1, len(rows), 10 ** 20, number):
                        ends = row[3][:spot] + (end,) + row[3][spot + 1:]
                        self.check_bent(table, rows, number, row[:3] + (ends,))

    def check_bent(self, table, rows, number, row):
        self.assertIs(map_holds(table, rows[:number] + [row] + rows[number + 1:]), False)

    def test_another_form(self):
        rows = WebMap(RING).rows()
        for number, (leans, hues, ties, ends) in enumerate(rows):
            for row in ((leans[::-1], hues[::-1], tuple(line[::-1] for line in ties[::-1]), ends[::-1]),
                        (leans, hues, ties, ends[::-1]), (leans, hues[1:] + hues[:1], ties, ends),
                        (leans, hues, ties, ends[:2]), (leans, hues, ties, ends + (0,)), (leans[:2], hues, ties, ends),
                        ((), (), (), ()), (leans, hues, ties, ()), (hues, leans, ties, ends), (leans, hues, ties),
                        (leans, hues, ties, ends, ends), (leans, hues, ties, list(ends)), [leans, hues, ties, ends]):
                if row != rows[number]:
                    self.check_bent(RING, rows, number, row)

    def test_rows_too_few_or_too_many(self):
        for table in (ONE, TWO, RING):
            rows = WebMap(table).rows()
            for bent in ([], rows[:1], rows[:-1], rows[1:], rows + rows[-1:], rows + rows[:1], rows * 2,
                         rows[:-1] + rows[:1], rows[:1] + rows[:-1]):
                self.assertIs(map_holds(table, bent), False)

    def test_ends_of_two_rows_changed_about(self):
        for table in (TWO, RING, LETTERED["B3"][0]):
            rows = WebMap(table).rows()
            for one, other in itertools.combinations(range(len(rows)), 2):
                bent = list(rows)
                bent[one] = rows[one][:3] + rows[other][3:]
                bent[other] = rows[other][:3] + rows[one][3:]
                self.assertIs(map_holds(table, bent), False)
                # The same web twice, and another one nowhere.
                self.assertIs(map_holds(table, rows[:other] + [rows[one]] + rows[other + 1:]), False)

    def test_of_other_tables(self):
        tables = [table for table in FINITE + SEVERAL if kind(table)[3] <= 20]
        maps = [WebMap(table).rows() for table in tables]
        for (one, table), (other, rows) in itertools.product(enumerate(tables), enumerate(maps)):
            self.assertIs(map_holds(table, rows), one == other or table == tables[other])
        self.assertIs(map_holds(turned(TWO, 0), WebMap(TWO).rows()), False)

    def test_of_endless_tables(self):
        for table in ENDLESS:
            for rows in ([], WebMap(TWO).rows(), WebMap(FOUR).rows()):
                self.assertIs(map_holds(table, rows), False)


if __name__ == "__main__":
    unittest.main()
