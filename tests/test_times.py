"""What must be done within ordinary time: each of these in seconds."""

import random
import time
import unittest

from budwright.errors import Great
from budwright.kinds import kind
from budwright.maps import WebMap, map_holds
from budwright.walks import belt, frieze, inner, walked
from samples import ENDLESS, FOUR, LETTERED, some_even_table, wandered

SECONDS = 8


class TimesTest(unittest.TestCase):
    def setUp(self):
        self.begun = time.perf_counter()

    def tearDown(self):
        self.assertLess(time.perf_counter() - self.begun, SECONDS)

    def test_sixty_exchanges_as_far_as_they_are_granted(self):
        source = random.Random(97)
        for span in (1, 1, 1, 2, 3, 9):
            wandered(source, some_even_table(source, 4, 4, span), 60)
        for table in (FOUR + FOUR, LETTERED["F4"][0] + FOUR, ENDLESS[-1], ENDLESS[-1] + FOUR):
            wandered(source, table, 60)

    def test_maps(self):
        for letters in ("F4", "B4"):
            web_map = WebMap(LETTERED[letters][0])
            for number in range(len(web_map)):
                web_map.walk_to(number)
            self.assertTrue(map_holds(LETTERED[letters][0], web_map.rows()))

    def test_belts(self):
        for table in [tables[0] for tables in LETTERED.values()] + [((0, 2), (-2, 0)), ((0, 50), (-50, 0))]:
            belt(table, most=40)

    def test_kinds(self):
        for table in [tables[0] for tables in LETTERED.values()] + list(ENDLESS):
            kind(table)

    def test_walks_with_great_numbers(self):
        table = ((0, 50), (-50, 0)) + ((50, 50), (-50, -50)) * 2
        parts = [(10 ** 30 - 1 - 2 * at, 10 ** 29 + 2 * at + 1) for at in range(6)]
        with self.assertRaises(Great):
            walked(table, [0], parts)
        with self.assertRaises(Great):
            walked(((0,), (50,), (-50,), (50,), (-50,)), [0], parts[:5])
        with self.assertRaises(Great):
            frieze(((0, 50), (-50, 0)), 12)
        with self.assertRaises(Great):
            inner(((0, 7), (-7, 0)), [0, 1] * 30)


class ManyMapsTest(unittest.TestCase):
    """How long many maps take is told, not judged."""

    def test_two_hundred_maps(self):
        table = ((0, 1, 0, 0), (-1, 0, 2, 0), (0, -1, 0, 1), (0, 0, -1, 0))
        begun = time.perf_counter()
        for _ in range(200):
            rows = WebMap(table).rows()
            self.assertEqual(len(rows), 105)
            self.assertIs(map_holds(table, rows), True)
        print(f"200 maps of F4 made and held against their rows: {time.perf_counter() - begun:.2f} seconds")


if __name__ == "__main__":
    unittest.main()
