"""Every door that takes a table refuses what is none, and what isn't even, ahead of all else."""

import unittest

from budwright.errors import BadTable, Uneven
from budwright.kinds import endless_holds, kind
from budwright.maps import WebMap, map_holds
from budwright.walks import belt, frieze, inner, leaned, parted, ring_length, walked
from budwright.webs import Web
from samples import NO_TABLES, UNEVEN, is_barring

DOORS = {
    "Web": lambda table: Web(table),
    "inner": lambda table: inner(table, []), "inner of none": lambda table: inner(table, None),
    "inner of far ones": lambda table: inner(table, [9, -1, "x"]),
    "parted": lambda table: parted(table, None, None),
    "walked": lambda table: walked(table, [], [(1, 1)]), "walked of none": lambda table: walked(table, None, None),
    "walked of far ones": lambda table: walked(table, [9], [(0, 1)]),
    "leaned": lambda table: leaned(table, [], [0]), "leaned of none": lambda table: leaned(table, None, None),
    "leaned of far ones": lambda table: leaned(table, [-1], [], greatest=True),
    "frieze": lambda table: frieze(table, 0), "frieze of none": lambda table: frieze(table, None),
    "belt": lambda table: belt(table), "belt of none": lambda table: belt(table, most=None),
    "ring_length": lambda table: ring_length(table, 0, 1), "one bud twice": lambda table: ring_length(table, 9, 9),
    "kind": lambda table: kind(table),
    "endless_holds": lambda table: endless_holds(table, (), 0, 1),
    "endless_holds of none": lambda table: endless_holds(table, None, None, None),
    "endless_holds of far ones": lambda table: endless_holds(table, (9, -1), 7, -7),
    "WebMap": lambda table: WebMap(table),
    "map_holds": lambda table: map_holds(table, []), "map_holds of none": lambda table: map_holds(table, None),
}


class DoorsTest(unittest.TestCase):
    def test_what_is_no_table(self):
        for name, door in DOORS.items():
            for table in NO_TABLES:
                with self.subTest((name, table)), self.assertRaises(BadTable):
                    door(table)

    def test_what_is_not_even(self):
        for name, door in DOORS.items():
            for table in UNEVEN:
                with self.subTest((name, table)), self.assertRaises(Uneven) as caught:
                    door(table)
                self.assertTrue(is_barring(table, caught.exception.ring))


if __name__ == "__main__":
    unittest.main()
