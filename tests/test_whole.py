"""What holds over the whole program: handed things stay, told lists are new, asking and refusals change nothing."""

import copy
import random
import unittest

from budwright.errors import Great
from budwright.garden import Garden
from budwright.kinds import endless_holds, kind
from budwright.maps import WebMap, map_holds
from budwright.pagelines import deed_text
from budwright.pages import page, read_deed, read_page
from budwright.polygons import cut_table, cuts, flip, flipped, is_cut, lengths
from budwright.sums import Sum, constant, letter, read_sum
from budwright.tables import barred, beside, opposite, principal, read_table, reordered, table_text, turned, weights
from budwright.walks import belt, frieze, inner, leaned, parted, reduced, ring_length, walked
from budwright.webs import Web
from gardens import LONG, some_garden, whole_state
from samples import LETTERED, RING, TALL, TWO, some_even_table, wandered, with_roots

PARTS = [(1, 2), (3, 1), (5, 7), (-2, 3), (4, 1)]


def some_web():
    web = Web(LONG)
    web.walk([0, 1, 2])
    web.hold(1)
    return web


def planted():
    made = Garden()
    made.sow("oak", TWO)
    made.sow("elm", LONG)
    made.walk("elm", [0, 1])
    made.undo()
    made.ask("one", ("terms", "oak", 0))
    return made


# What tells something, with what is handed in; each may be called again and again.
ASKING = (
    (lambda terms: Sum(2, terms).terms(), [((1, 0), 2), ((0, 1), 3), ((1, 0), 4)]),
    (lambda terms: str(Sum(2, terms)), [([1, 0], 2), ([0, -1], 3)]),
    (lambda parts: letter(5, 3, by=-2).worth(parts), PARTS), (lambda numbers: letter(3, 1).least(numbers), [3, 1, 2]),
    (lambda numbers: letter(3, 1).greatest(numbers), [3, 1, 2]), (lambda walk: reduced(walk), [0, 1, 1, 0, 2]),
    (lambda walk: inner(RING, walk), [0, 1, 2, 0]), (lambda walk, parts: walked(LONG, walk, parts), [0, 1, 2], PARTS),
    (lambda walk, numbers: leaned(LONG, walk, numbers), [0, 1, 2], [5, -7, 3, 0, 2]),
    (lambda walk, numbers: leaned(LONG, walk, numbers, greatest=True), [0, 1, 2], [5, -7, 3, 0, 2]),
    (lambda: frieze(LONG, 3),), (lambda: cuts(6),), (lambda: WebMap(RING).rows(),), (lambda: WebMap(RING).buds(),),
    (lambda leans: WebMap(TWO).number_of(leans), [(0, 1), (1, 0)]), (lambda: WebMap(RING).way(0, 9),),
    (lambda: WebMap(RING).walk_to(9),), (lambda rows: map_holds(TWO, rows), WebMap(TWO).rows()),
    (lambda parts: lengths(6, ((0, 2), (0, 3), (0, 4)), parts), PARTS[:3]), (lambda: weights(TALL),),
)


def spoil(thing):
    """Changes a list or dict as far as it can be changed."""
    if isinstance(thing, dict):
        thing.clear()
        thing["spoilt"] = True
    elif isinstance(thing, list):
        for inside in thing:
            spoil(inside)
        thing.reverse()
        thing.append("spoilt")


class AskingTest(unittest.TestCase):
    def test_handed_things_stay_and_told_ones_are_new(self):
        for ask, *kept in ASKING:
            with self.subTest(kept):
                handed = copy.deepcopy(kept)
                told = ask(*handed)
                self.assertEqual(handed, kept)
                meant = copy.deepcopy(told)
                spoil(handed)
                self.assertEqual(told, meant)
                spoil(told)
                self.assertEqual(ask(*kept), meant)

    def check_object(self, make, asks, state):
        """Whether asking changes nothing, and told lists have nothing to do with the object."""
        thing, other = make(), make()
        before, apart = state(thing), state(other)
        for ask in asks:
            meant = copy.deepcopy(ask(thing))
            spoil(ask(thing))
            self.assertEqual(ask(thing), meant)
            self.assertEqual(state(thing), before)
        self.assertEqual(state(other), apart)

    def test_sums(self):
        def made():
            return Sum(3, [((1, 0, -1), 2), ((0, 2, 0), -5), ((0, 0, 0), 1)])

        asks = (lambda one: one.terms(), lambda one: one.plus(made()), lambda one: one.minus(made()), len, str, repr,
                lambda one: one.times(one), lambda one: one.raised(3), lambda one: one.shared(one),
                lambda one: one.worth(PARTS[:3]), lambda one: one.lowest(), lambda one: one.with_ones((0, 2)),
                lambda one: one.widened(5), lambda one: one == made(), lambda one: one.least([1, 2, 3]))
        self.check_object(made, asks, lambda one: (one.width, one.terms(), str(one)))

    def test_webs(self):
        asks = (Web.table, Web.weights, Web.places, Web.buds, Web.hues, Web.leans, Web.done, Web.held, len, str, repr,
                lambda web: web.bud(0), lambda web: web.alike(some_web()), lambda web: web.twin(),
                lambda web: web == some_web())
        self.check_object(some_web, asks, lambda web: (web.table(), web.buds(), web.hues(), web.leans(), web.done(),
                                                       web.held(), str(web)))

    def test_maps(self):
        asks = (WebMap.rows, WebMap.buds, len, repr, lambda one: one.way(1, 4), lambda one: one.walk_to(4),
                lambda one: one.number_of(one.rows()[3][0]))
        self.check_object(lambda: WebMap(RING), asks, lambda one: (one.rows(), one.buds(), one.way(0, 9)))

    def test_gardens(self):
        asks = (Garden.done, Garden.names, Garden.asks, len, str, repr, page, lambda one: one.web("elm"),
                lambda one: one == planted(), lambda one: whole_state(one.twin()), lambda one: one.twin().news())
        self.check_object(planted, asks, whole_state)

    def test_tables_and_texts_are_told_anew(self):
        table = LONG
        asks = (barred, weights, opposite, principal, table_text, kind, lambda one: turned(one, 1),
                lambda one: reordered(one, (2, 0, 1)), lambda one: beside(one, ((0,),)), lambda one: belt(TWO),
                lambda one: ring_length(one, 0, 1), lambda one: endless_holds(one, (0, 1), 0, 1),
                lambda one: read_table(table_text(one)), lambda one: read_deed(deed_text(("sow", "oak", one))),
                lambda one: read_page("sow oak 0\n"), lambda one: is_cut(4, ((0, 2),)),
                lambda one: (cut_table(5, ((0, 2), (0, 3))), flip(5, ((0, 2), (0, 3)), (0, 2))),
                lambda one: flipped(5, ((0, 2), (0, 3)), (0, 2)), lambda one: read_sum("a + b", width=2),
                lambda one: constant(2, 3).plus(letter(2, 0)), lambda one: parted(one, (-1, 0, 1), inner(one, [0])[0]))
        for ask in asks:
            self.assertEqual(ask(table), ask(table))
        self.assertEqual(table, RING + ((1, 0, 2), (0, -3, 1)))


class BudsTest(unittest.TestCase):
    def test_each_bud_is_one_sum_of_counts_above_nought(self):
        source = random.Random(141)
        for tables in LETTERED.values():
            for table in tables:
                web = wandered(source, with_roots(source, table, 2, 1), 12)
                for bud in web.buds():
                    self.assertTrue(all(count > 0 for powers, count in bud.terms()))
                    self.assertTrue(all(power >= 0 for power in bud.lowest()[len(web):]))

    def test_the_same_bud_comes_by_whatever_way(self):
        source = random.Random(142)
        for letters in ("A3", "B3", "A4", "G2", "D4"):
            for table in LETTERED[letters]:
                table = with_roots(source, table, 1, 1)
                found = {}
                for _ in range(12):
                    web = wandered(source, table, 10)
                    for lean, bud in zip(web.leans(), web.buds()):
                        self.assertEqual(found.setdefault(lean, bud), bud)
                self.assertEqual(len({str(bud) for bud in found.values()}), len(found))

    def test_buds_of_gardens_are_those_of_webs(self):
        source = random.Random(143)
        for _ in range(20):
            garden = some_garden(source, 30)
            for name in garden.names():
                deeds = [deed for deed in garden.done() if name in deed[1:]]
                if {deed[0] for deed in deeds} <= {"sow", "grow", "walk"}:
                    web = Web(deeds[0][2])
                    for deed in deeds[1:]:
                        web.walk(deed[2] if deed[0] == "walk" else [deed[2]])
                    self.assertEqual(garden.web(name), web)

    def test_finite_or_endless_with_what_shows_it(self):
        source = random.Random(144)
        for _ in range(60):
            table = some_even_table(source, source.randint(1, 4), 1, 1)
            told = kind(table)
            if told[0] == "finite":
                self.assertTrue(map_holds(table, WebMap(table).rows()))
            else:
                self.assertTrue(endless_holds(table, *told[1:]))


class GreatStaysTest(unittest.TestCase):
    def test_what_is_refused_in_the_middle_of_a_walk_changes_nothing(self):
        garden = Garden()
        garden.sow("oak", ((0, 7), (-7, 0), (7, 2)))
        web = garden.web("oak")
        before = whole_state(garden)
        for deed in (lambda: garden.walk("oak", [1, 1, 0]), lambda: web.walk([1, 1, 0])):
            with self.assertRaises(Great):
                deed()
        self.assertEqual(whole_state(garden), before)
        self.assertEqual((web, web.done()), (garden.web("oak"), []))


if __name__ == "__main__":
    unittest.main()
