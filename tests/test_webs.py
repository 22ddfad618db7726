"""Webs: begun, walked, held, reordered, compared, twinned."""

import itertools
import random
import unittest

from budwright.errors import BadOrder, Full, Great, Held, NoPlace, NotHeld
from budwright.sums import letter
from budwright.tables import reordered, weights
from budwright.webs import Web
from samples import EVEN, FOUR, LETTERED, NO_NUMBERS, ONE, RING, TALL, TWO, some_even_table, wandered, with_roots

ROOTED = ((0, 2), (-1, 0), (1, 0), (-3, 2))
FAR = (-1, -2, 8, 60, 10 ** 20)


def state(web):
    """All that a web tells."""
    return (web.table(), web.weights(), web.places(), web.buds(), [web.bud(place) for place in range(web.places())],
            web.hues(), web.leans(), web.done(), web.held(), len(web), str(web), repr(web))


class BegunTest(unittest.TestCase):
    def test_what_stands_at_first(self):
        web = Web(TALL)
        self.assertEqual([str(web.bud(place)) for place in range(4)], ["a", "b", "c", "d"])
        self.assertEqual(web.buds(), [letter(4, 0), letter(4, 1)])
        self.assertEqual([web.hues(), web.leans()], [[(1, 0), (0, 1)]] * 2)
        self.assertEqual((web.table(), web.weights(), web.places()), (TALL, (1, 2), 4))
        self.assertEqual((web.done(), web.held()), ([], []))
        self.assertEqual((len(web), bool(web)), (2, True))
        self.assertEqual((str(web), repr(web)), ("0,2;-1,0;1,0;-3,50", "Web(2 buds, 2 roots)"))

    def test_of_many_tables(self):
        for table in EVEN:
            web = Web(table=table)
            many = len(table[0])
            units = [tuple(int(i == j) for j in range(many)) for i in range(many)]
            self.assertEqual(web.buds(), [letter(len(table), bud) for bud in range(many)])
            self.assertEqual((web.hues(), web.leans()), (units, units))
            self.assertEqual((web.places(), len(web), web.table()), (len(table), many, table))
            self.assertIs(bool(web), True)
            self.assertEqual(web.weights(), weights(table))
            self.assertEqual(str(web), ";".join(",".join(map(str, row)) for row in table))
            self.assertEqual(repr(web), f"Web({many} buds, {len(table) - many} roots)")

    def test_kinds_of_values(self):
        web = Web(ROOTED)
        web.walk([0, 1])
        for told in (web.buds(), web.hues(), web.leans(), web.done(), web.held()):
            self.assertIs(type(told), list)
        for told in (*web.hues(), *web.leans(), web.table(), *web.table(), web.weights()):
            self.assertIs(type(told), tuple)
        for deed in (lambda: web.exchange(0), lambda: web.walk([]), lambda: web.hold(0), lambda: web.release(0),
                     lambda: web.reorder((1, 0))):
            self.assertIsNone(deed())

    def test_told_lists_are_new_ones(self):
        web = Web(TALL)
        web.exchange(0)
        web.hold(1)
        before = state(web)
        for ask in (web.buds, web.hues, web.leans, web.done, web.held):
            told = ask()
            told.append(None)
            told[0] = None
            self.assertIsNot(ask(), ask())
        self.assertEqual(state(web), before)

    def test_no_place(self):
        for table in (ONE, TALL, FOUR):
            web = Web(table)
            for place in (-1, len(table), len(table) + 1, 10 ** 20, *NO_NUMBERS):
                with self.subTest((table, place)), self.assertRaises(NoPlace) as caught:
                    web.bud(place)
                self.assertEqual(caught.exception.place, place)
            self.assertEqual(web.bud(place=len(table) - 1), letter(len(table), len(table) - 1))

    def test_equal(self):
        self.assertTrue(Web(TWO) == Web(TWO))
        self.assertFalse(Web(TWO) != Web(TWO))
        self.assertNotEqual(Web(TWO), Web(((0, -1), (1, 0))))
        self.assertNotEqual(Web(TWO), Web(TWO + ((0, 0),)))
        for other in (TWO, "0,1;-1,0", None, 0, 2, [letter(2, 0), letter(2, 1)]):
            self.assertFalse(Web(TWO) == other)
            self.assertTrue(Web(TWO) != other)

    def test_equal_by_table_sums_and_what_is_held(self):
        one, other = Web(TWO), Web(TWO)
        other.walk((0, 0))
        self.assertEqual(one, other)
        other.hold(1)
        self.assertNotEqual(one, other)
        one.hold(0)
        self.assertNotEqual(one, other)
        one.hold(1)
        other.hold(0)
        self.assertEqual(one, other)
        ahead, behind = Web(((0,),)), Web(((0,),))
        behind.exchange(0)
        self.assertEqual(ahead.table(), behind.table())
        self.assertNotEqual(ahead, behind)
        ring = Web(TWO)
        ring.walk([0, 1, 0, 1, 0])
        self.assertNotEqual(ring, Web(TWO))
        ring.reorder((1, 0))
        self.assertEqual(ring, Web(TWO))


class WalkTest(unittest.TestCase):
    def test_a_walk_is_exchanges_one_by_one(self):
        source = random.Random(51)
        for letters in LETTERED.values():
            for table in letters:
                table = with_roots(source, table, source.randint(0, 2), 1)
                places = [source.randrange(len(table[0])) for _ in range(20)]
                one, other, third = Web(table), Web(table), Web(table)
                for place in places:
                    one.exchange(place)
                other.walk(places)
                third.walk(places=tuple(places))
                self.assertEqual(state(one), state(other))
                self.assertEqual(state(one), state(third))
                self.assertEqual(one.done(), places)

    def test_a_walk_of_none(self):
        web = Web(TWO)
        web.exchange(1)
        before = state(web)
        web.walk([])
        web.walk(())
        self.assertEqual(state(web), before)

    def test_handed_lists_stay_and_are_not_kept(self):
        web = Web(TWO)
        places = [0, 1, 0]
        web.walk(places)
        self.assertEqual(places, [0, 1, 0])
        places.append(7)
        self.assertEqual(web.done(), [0, 1, 0])

    def check_refused(self, web, places, error, field=None):
        before = state(web)
        for form in (list, tuple):
            with self.subTest((places, error)), self.assertRaises(error) as caught:
                web.walk(form(places))
            if field is not None:
                self.assertEqual(getattr(caught.exception, field[0]), field[1])
            self.assertEqual(state(web), before)

    def test_all_or_none(self):
        web = Web(RING)
        web.hold(2)
        self.check_refused(web, (0, 1, 3), NoPlace, ("place", 3))
        self.check_refused(web, (0, 1, -1), NoPlace, ("place", -1))
        self.check_refused(web, (0, 1, 2), Held, ("place", 2))
        self.check_refused(web, (0, 2, 3), Held, ("place", 2))
        self.check_refused(web, (0, 3, 2), NoPlace, ("place", 3))
        self.check_refused(web, (0, 1) * 31, Full, ("most", 60))
        self.check_refused(web, (0,) * 60 + (2,), Held, ("place", 2))
        self.check_refused(web, (0,) * 60 + (3,), NoPlace, ("place", 3))
        self.check_refused(web, (0,) * 61 + (3,), Full, ("most", 60))

    def test_the_first_exchange_that_is_refused_tells(self):
        web = Web(((0, 7), (-7, 0), (7, 2)))
        self.check_refused(web, (1, 0, 5), NoPlace, ("place", 5))
        self.check_refused(web, (0, 5), Great)
        self.check_refused(web, (5, 0), NoPlace, ("place", 5))
        web.hold(1)
        self.check_refused(web, (0, 1), Great)
        self.check_refused(web, (1, 0), Held, ("place", 1))

    def test_sixty_exchanges(self):
        web = Web(TWO)
        web.walk([0, 1] * 30)
        self.assertEqual(len(web.done()), 60)
        self.check_refused(web, (0,), Full, ("most", 60))
        web.walk([])
        self.assertEqual(web, Web(TWO))


class RefusalTest(unittest.TestCase):
    def check(self, web, place, error, field=None):
        before = state(web)
        with self.subTest((place, error)), self.assertRaises(error) as caught:
            web.exchange(place)
        if field is not None:
            self.assertEqual(getattr(caught.exception, field[0]), field[1])
        self.assertEqual(state(web), before)

    def test_no_place(self):
        for table in EVEN:
            web = Web(table)
            for place in (len(table[0]), len(table) - 1 if len(table) > len(table[0]) else -1, *FAR, *NO_NUMBERS):
                self.check(web, place, NoPlace, ("place", place))

    def test_held(self):
        web = Web(FOUR)
        web.hold(3)
        web.hold(1)
        self.check(web, 1, Held, ("place", 1))
        self.check(web, 3, Held, ("place", 3))
        web.exchange(0)
        web.release(3)
        web.exchange(3)
        self.check(web, 1, Held, ("place", 1))
        self.assertEqual(web.done(), [0, 3])

    def test_full(self):
        web = Web(TWO)
        for step in range(60):
            web.exchange(step % 2)
        self.check(web, 0, Full, ("most", 60))
        self.check(web, 1, Full, ("most", 60))
        self.assertEqual(web.done(), [0, 1] * 30)

    def test_their_order(self):
        table = ((0, 7), (-7, 0), (7, 2))
        web = Web(table)
        self.check(web, 0, Great)
        web.walk([1] * 60)
        self.check(web, 0, Full, ("most", 60))
        web.hold(0)
        self.check(web, 0, Held, ("place", 0))
        self.check(web, 2, NoPlace, ("place", 2))
        other = Web(table)
        other.hold(0)
        self.check(other, 0, Held, ("place", 0))
        self.check(other, 2, NoPlace, ("place", 2))


class HoldTest(unittest.TestCase):
    def test_hold_and_release(self):
        web = Web(FOUR)
        for place, held in ((2, [2]), (0, [0, 2]), (3, [0, 2, 3]), (1, [0, 1, 2, 3])):
            web.hold(place)
            self.assertEqual(web.held(), held)
        for place, held in ((2, [0, 1, 3]), (0, [1, 3]), (3, [1]), (1, [])):
            web.release(place=place)
            self.assertEqual(web.held(), held)
        self.assertEqual(web, Web(FOUR))

    def test_refused(self):
        web = Web(TALL)
        web.hold(place=1)
        before = state(web)
        for deed, place, error in ((web.hold, 1, Held), (web.release, 0, NotHeld)):
            with self.assertRaises(error) as caught:
                deed(place)
            self.assertEqual(caught.exception.place, place)
        for deed, place in itertools.product((web.hold, web.release), (2, 3, 4, *FAR, *NO_NUMBERS)):
            with self.assertRaises(NoPlace) as caught:
                deed(place)
            self.assertEqual(caught.exception.place, place)
        self.assertEqual(state(web), before)

    def test_what_is_held_stays_by_exchanges_elsewhere(self):
        web = Web(FOUR)
        web.hold(2)
        web.walk([0, 1, 3, 1])
        self.assertEqual(web.held(), [2])
        self.assertEqual(web.bud(2), letter(4, 2))


class ReorderTest(unittest.TestCase):
    def test_all_go_along_but_done(self):
        source = random.Random(52)
        for _ in range(60):
            many = source.randint(1, 4)
            web = wandered(source, some_even_table(source, many, source.randint(0, 4), 1), 6)
            for place in source.sample(range(many), source.randint(0, many)):
                web.hold(place)
            old = web.twin()
            order = tuple(source.sample(range(many), many))
            web.reorder(order)
            self.assertEqual(web.table(), reordered(old.table(), order))
            self.assertEqual(web.weights(), tuple(old.weights()[bud] for bud in order))
            self.assertEqual(web.buds(), [old.buds()[bud] for bud in order])
            self.assertEqual(web.hues(), [old.hues()[bud] for bud in order])
            self.assertEqual(web.leans(), [old.leans()[bud] for bud in order])
            self.assertEqual(web.held(), [p for p in range(many) if order[p] in old.held()])
            self.assertEqual(web.done(), old.done())
            self.assertEqual([web.bud(p) for p in range(many, web.places())],
                             [letter(web.places(), p) for p in range(many, web.places())])
            back = tuple(order.index(bud) for bud in range(many))
            self.assertEqual(old.alike(web), order)
            self.assertEqual(web.alike(old), back)
            web.reorder(order=back)
            self.assertEqual(state(web), state(old))

    def test_exchanges_behind_it(self):
        source = random.Random(53)
        for table in LETTERED["B3"] + LETTERED["A4"]:
            table = with_roots(source, table, 2, 1)
            many = len(table[0])
            order = tuple(source.sample(range(many), many))
            one, other = Web(table), Web(table)
            places = [source.randrange(many) for _ in range(12)]
            one.reorder(order)
            one.walk(places)
            other.walk([order[place] for place in places])
            other.reorder(order)
            self.assertEqual(state(one)[:7], state(other)[:7])
            self.assertEqual(one.done(), places)

    def test_bad_orders(self):
        web = Web(TALL)
        web.exchange(0)
        web.hold(1)
        before = state(web)
        for order in ((), (0,), (0, 0), (1, 1), (0, 2), (-1, 0), (0, 1, 2), (0, 1, 2, 3), (False, True), (0, "1"),
                      (0, None), [0, 1], None, "01", 1):
            with self.subTest(order), self.assertRaises(BadOrder):
                web.reorder(order)
        self.assertEqual(state(web), before)


class AlikeTest(unittest.TestCase):
    def test_the_same_web(self):
        for table in EVEN:
            web = Web(table)
            self.assertEqual(web.alike(web), tuple(range(len(web))))
            self.assertEqual(web.alike(other=Web(table)), tuple(range(len(web))))

    def test_the_pentagon(self):
        one, other = Web(TWO), Web(TWO)
        one.walk([0, 1, 0])
        other.walk([1, 0])
        self.assertEqual((one.alike(other), other.alike(one)), ((1, 0), (1, 0)))
        self.assertIs(type(one.alike(other)), tuple)
        self.assertNotEqual(one, other)
        one.reorder((1, 0))
        self.assertEqual(one, other)

    def test_what_is_held_and_done_does_not_count(self):
        one, other = Web(TWO), Web(TWO)
        one.hold(0)
        other.walk([1, 1])
        self.assertEqual(one.alike(other), (0, 1))

    def test_not_alike(self):
        cases = (
            (Web(TWO), Web(((0, -1), (1, 0)))), (Web(TWO), Web(TWO + ((0, 0),))), (Web(TWO), Web(ONE)),
            (Web(TWO + ((0, 0),)), Web(tuple([(0, 0, 0)] * 3))), (Web(ONE + ((0,),)), Web(((0, 0), (0, 0)))),
            (Web(TWO + ((1, 0),)), Web(TWO + ((0, 1),))), (Web(RING), Web(FOUR)),
        )
        for one, other in cases:
            self.assertIsNone(one.alike(other))
            self.assertIsNone(other.alike(one))
        web = Web(TWO)
        web.exchange(0)
        self.assertIsNone(web.alike(Web(TWO)))
        self.assertIsNone(Web(TWO).alike(web))

    def test_the_order_is_of_this_web(self):
        web = Web(tuple([(0, 0, 0)] * 3) + ((1, 2, 3),))
        other = web.twin()
        other.reorder((1, 2, 0))
        self.assertEqual(web.alike(other), (1, 2, 0))
        self.assertEqual(other.alike(web), (2, 0, 1))


class TwinTest(unittest.TestCase):
    def test_it_has_all(self):
        web = Web(ROOTED)
        web.walk([0, 1, 0])
        web.reorder((1, 0))
        web.hold(1)
        self.assertEqual(state(web.twin()), state(web))
        self.assertIsInstance(web.twin(), Web)
        self.assertIsNot(web.twin(), web)

    def test_it_goes_its_own_way(self):
        web = Web(FOUR)
        web.exchange(2)
        web.hold(3)
        before = state(web)
        twin = web.twin()
        twin.walk([0, 1])
        twin.release(3)
        twin.hold(0)
        twin.reorder((3, 2, 1, 0))
        self.assertEqual(state(web), before)
        after = state(twin)
        web.exchange(1)
        web.release(3)
        web.reorder((1, 0, 2, 3))
        self.assertEqual(state(twin), after)

    def test_it_has_made_as_many_exchanges(self):
        web = Web(TWO)
        web.walk([0, 1] * 29 + [0])
        twin = web.twin()
        twin.exchange(1)
        with self.assertRaises(Full):
            twin.exchange(1)
        web.exchange(1)

    def test_webs_made_apart(self):
        one, other = Web(FOUR), Web(FOUR)
        before = state(other)
        one.walk([0, 1, 2])
        one.hold(1)
        one.reorder((2, 1, 0, 3))
        self.assertEqual(state(other), before)
        self.assertEqual(state(Web(FOUR)), before)


if __name__ == "__main__":
    unittest.main()
