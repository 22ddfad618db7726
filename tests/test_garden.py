"""Gardens: deeds, what they do and where they are refused, taking back and doing again, twins."""

import itertools
import random
import unittest

from budwright import garden as garden_file
from budwright.errors import NothingLeft
from budwright.garden import Garden
from budwright.tables import beside
from budwright.webs import Web
from gardens import (BAD_NAMES, LONG, NAMES, SlowGarden, by_method, garden_state, refusal, side_by_side, some_deed,
                     some_garden, web_state, whole_state)
from samples import FOUR, NO_NUMBERS, NO_TABLES, ONE, RING, TALL, TWO, UNEVEN, is_barring

WAYS = (by_method, lambda garden, deed: garden.do(deed))
WORDS = {"sow": 2, "grow": 2, "walk": 2, "hold": 2, "release": 2, "reorder": 2, "graft": 3, "uproot": 1}
OF_ONE_WEB = (("grow", 0), ("walk", (0, 1)), ("hold", 0), ("release", 0), ("reorder", (1, 0)), ("uproot",))


def planted():
    """A garden of two webs, of which one has gone on."""
    garden = Garden()
    garden.sow("oak", TWO)
    garden.sow("elm", LONG)
    garden.walk("elm", [0, 1])
    garden.hold("elm", 2)
    return garden


class DeedsTest(unittest.TestCase):
    def check_each_way(self, deed, check, ahead=()):
        """Does the deed by its method and by do, and checks both gardens."""
        for way in WAYS:
            garden = planted()
            for other in ahead:
                garden.do(other)
            before = len(garden.done())
            with self.subTest(deed):
                self.assertIsNone(way(garden, deed))
                self.assertEqual(garden.done()[before:], [deed])
                check(garden)

    def test_sow(self):
        def check(garden):
            self.assertEqual(garden.names(), ["ash", "elm", "oak"])
            self.assertEqual(web_state(garden.web("ash")), web_state(Web(TALL)))
            self.assertEqual((len(garden), repr(garden)), (3, "Garden(3 webs)"))

        self.check_each_way(("sow", "ash", TALL), check)

    def check_web(self, deed, name, change, ahead=()):
        """Whether the deed changes the web as a web of its own is changed, and no other."""
        def check(garden):
            before = planted()
            for other in ahead:
                before.do(other)
            web = before.web(name)
            change(web)
            self.assertEqual(web_state(garden.web(name)), web_state(web))
            self.assertEqual(garden.names(), before.names())
            for other in before.names():
                if other != name:
                    self.assertEqual(web_state(garden.web(other)), web_state(before.web(other)))

        self.check_each_way(deed, check, ahead)

    def test_deeds_of_one_web(self):
        self.check_web(("grow", "elm", 0), "elm", lambda web: web.exchange(0))
        self.check_web(("grow", "oak", 1), "oak", lambda web: web.exchange(1))
        self.check_web(("walk", "elm", (0, 1, 0)), "elm", lambda web: web.walk([0, 1, 0]))
        self.check_web(("walk", "oak", ()), "oak", lambda web: None)
        self.check_web(("hold", "elm", 0), "elm", lambda web: web.hold(0))
        self.check_web(("release", "elm", 2), "elm", lambda web: web.release(2))
        self.check_web(("reorder", "elm", (2, 0, 1)), "elm", lambda web: web.reorder((2, 0, 1)))
        self.check_web(("grow", "oak", 0), "oak", lambda web: web.exchange(0), (("sow", "ash", ONE),))

    def test_uproot(self):
        def check(garden):
            self.assertEqual(garden.names(), ["elm"])
            self.assertEqual(web_state(garden.web("elm")), web_state(planted().web("elm")))
            garden.sow("oak", ONE)
            self.assertEqual(garden.web("oak"), Web(ONE))

        self.check_each_way(("uproot", "oak"), check)

    def test_graft(self):
        def check(garden):
            before = planted()
            table = side_by_side(before.web("elm").table(), ONE)
            self.assertEqual(web_state(garden.web("fir")), web_state(Web(table)))
            self.assertEqual(table, beside(before.web("elm").table(), ONE))
            self.assertEqual(web_state(garden.web("elm")), web_state(before.web("elm")))
            self.assertEqual(web_state(garden.web("ash")), web_state(Web(ONE)))

        self.check_each_way(("graft", "fir", "elm", "ash"), check, (("sow", "ash", ONE),))

    def test_graft_of_one_web_with_itself(self):
        def check(garden):
            web = Web(TWO)
            web.exchange(0)
            self.assertEqual(web_state(garden.web("oak")), web_state(web))
            turned = ((0, -1), (1, 0))
            self.assertEqual(garden.web("twins"), Web(side_by_side(turned, turned)))
            garden.grow("twins", 3)
            self.assertEqual(web_state(garden.web("oak")), web_state(web))

        self.check_each_way(("graft", "twins", "oak", "oak"), check, (("grow", "oak", 0),))

    def test_graft_takes_roots_and_nothing_held(self):
        garden = Garden()
        garden.sow("one", ((0,), (1,), (2,)))
        garden.sow("other", ((0, 3), (-1, 0), (5, 6)))
        garden.hold("one", 0)
        garden.hold("other", 1)
        garden.graft("both", "one", "other")
        self.assertEqual(garden.web("both").table(),
                         ((0, 0, 0), (0, 0, 3), (0, -1, 0), (1, 0, 0), (2, 0, 0), (0, 5, 6)))
        self.assertEqual((garden.web("both").held(), garden.web("both").done()), ([], []))
        garden.graft("back", "other", "one")
        self.assertEqual(garden.web("back").table(),
                         ((0, 3, 0), (-1, 0, 0), (0, 0, 0), (5, 6, 0), (0, 0, 1), (0, 0, 2)))

    def test_by_name(self):
        garden = Garden(limit=2)
        garden.sow(table=TWO, name="oak")
        garden.grow(place=0, name="oak")
        garden.walk(places=[1, 0], name="oak")
        garden.hold(place=0, name="oak")
        garden.release(place=0, name="oak")
        garden.reorder(order=(1, 0), name="oak")
        garden.graft(other="oak", one="oak", name="elm")
        garden.uproot(name="oak")
        garden.do(deed=("uproot", "elm"))
        self.assertEqual([deed[0] for deed in garden.done()], ["sow", "grow", "walk", "hold", "release", "reorder",
                                                               "graft", "uproot", "uproot"])
        garden.ask(question=("kind", "oak"), name="asked")
        garden.unask(name="asked")

    def test_bounds(self):
        self.assertEqual((garden_file.MOST_WEBS, garden_file.MOST_ASKS), (8, 6))

    def test_at_first(self):
        garden = Garden()
        self.assertEqual((garden.names(), garden.done(), garden.asks(), garden.news()), ([], [], [], []))
        self.assertEqual((len(garden), repr(garden), str(garden)), (0, "Garden(0 webs)", ""))

    def test_against_slow_gardens(self):
        source = random.Random(111)
        for limit in (1, 2, 3, 3, 8, 8, 8, 8):
            garden, slow = Garden(limit=limit), SlowGarden(limit)
            for _ in range(60):
                step = source.random()
                if step < 0.15:
                    told = refusal(garden.undo) is None
                    self.assertEqual(told, bool(slow.deeds))
                    if told:
                        slow.undone.append(slow.deeds.pop())
                elif step < 0.25:
                    told = refusal(garden.redo) is None
                    self.assertEqual(told, bool(slow.undone))
                    if told:
                        slow.deeds.append(slow.undone.pop())
                else:
                    deed = some_deed(source, NAMES[:5])
                    self.assertEqual(refusal(source.choice(WAYS), garden, deed) is None, slow.do(deed), deed)
                self.assertEqual(garden_state(garden)[:3], slow.state())


class RefusalTest(unittest.TestCase):
    def check(self, garden, deed, told, **fields):
        """Whether the deed is refused so, by its method and by do, and changes nothing."""
        before = whole_state(garden)
        for way in WAYS:
            with self.subTest(deed):
                self.assertEqual(refusal(way, garden, deed), (told, fields))
        self.assertEqual(whole_state(garden), before)

    def full(self, limit=8):
        garden = Garden(limit=limit)
        for name in NAMES[:limit]:
            garden.sow(name, TWO)
        return garden

    def test_bad_names(self):
        for name in BAD_NAMES:
            for garden in (Garden(), planted(), self.full(1)):
                self.check(garden, ("sow", name, TWO), "BadName")
                self.check(garden, ("sow", name, None), "BadName")
                self.check(garden, ("graft", name, "oak", "oak"), "BadName")
                self.check(garden, ("graft", name, "nobody", "nobody"), "BadName")

    def test_good_names(self):
        garden = Garden()
        for name in ("a", "z", "abcdefgh", "zzzzzzzz", "mn"):
            garden.sow(name, ONE)
        self.assertEqual(garden.names(), ["a", "abcdefgh", "mn", "z", "zzzzzzzz"])

    def test_taken(self):
        for garden in (planted(), self.full(1), self.full()):
            for table in (TWO, None, UNEVEN[0]):
                self.check(garden, ("sow", "oak", table), "Taken", name="oak")
            self.check(garden, ("graft", "oak", "oak", "oak"), "Taken", name="oak")
            self.check(garden, ("graft", "oak", "nobody", "oak"), "Taken", name="oak")

    def test_full(self):
        for limit in range(1, 9):
            garden = self.full(limit)
            for table in (TWO, None, UNEVEN[0]):
                self.check(garden, ("sow", "new", table), "Full", most=limit)
            for one, other in itertools.product(("oak", "nobody"), repeat=2):
                self.check(garden, ("graft", "new", one, other), "Full", most=limit)
            garden.uproot("oak")
            garden.sow("new", ONE)
            self.assertEqual(len(garden), limit)
            garden.undo()
            garden.sow("oak", ONE)
            self.check(garden, ("sow", "new", TWO), "Full", most=limit)

    def test_no_tables(self):
        garden = planted()
        for table in NO_TABLES:
            self.check(garden, ("sow", "ash", table), "BadTable")
        for table in UNEVEN:
            told = refusal(garden.sow, "ash", table)
            self.assertEqual(told[0], "Uneven")
            self.assertTrue(is_barring(table, told[1]["ring"]))
            self.check(garden, ("sow", "ash", table), "Uneven", ring=told[1]["ring"])

    def test_no_web(self):
        for garden in (Garden(), planted()):
            for name in ("nobody", "ash", *BAD_NAMES):
                for word, *things in OF_ONE_WEB + (("grow", 99), ("walk", (9,)), ("hold", -1), ("reorder", (7,))):
                    self.check(garden, (word, name, *things), "NoWeb", name=name)

    def test_no_web_after_it_was_uprooted(self):
        garden = planted()
        garden.uproot("oak")
        for word, *things in OF_ONE_WEB:
            self.check(garden, (word, "oak", *things), "NoWeb", name="oak")
        self.assertEqual(refusal(garden.web, "oak"), ("NoWeb", {"name": "oak"}))

    def test_no_web_to_graft(self):
        garden = planted()
        garden.sow("four", FOUR)
        for name in ("nobody", *BAD_NAMES):
            self.check(garden, ("graft", "new", name, "oak"), "NoWeb", name=name)
            self.check(garden, ("graft", "new", "oak", name), "NoWeb", name=name)
            self.check(garden, ("graft", "new", name, "nil"), "NoWeb", name=name)
            self.check(garden, ("graft", "new", "four", name), "NoWeb", name=name)

    def test_graft_too_great(self):
        garden = planted()
        garden.sow("four", FOUR)
        garden.sow("roots", ((0,), (1,), (1,), (1,)))
        for one, other in (("four", "oak"), ("oak", "four"), ("four", "four"), ("elm", "oak"), ("roots", "elm"),
                           ("roots", "roots"), ("elm", "elm")):
            self.check(garden, ("graft", "new", one, other), "Full", most=4)
        garden.graft("new", "roots", "oak")
        self.assertEqual(garden.web("new").places(), 6)

    def test_no_place(self):
        for place in (2, 3, -1, -2, 10 ** 20, *NO_NUMBERS):
            for word in ("grow", "hold", "release"):
                self.check(planted(), (word, "oak", place), "NoPlace", place=place)
            self.check(planted(), ("walk", "oak", (0, place)), "NoPlace", place=place)
        for word in ("grow", "hold", "release"):
            self.check(planted(), (word, "elm", 3), "NoPlace", place=3)

    def test_held_and_not_held(self):
        garden = planted()
        self.check(garden, ("grow", "elm", 2), "Held", place=2)
        self.check(garden, ("walk", "elm", (0, 2)), "Held", place=2)
        self.check(garden, ("hold", "elm", 2), "Held", place=2)
        self.check(garden, ("release", "elm", 0), "NotHeld", place=0)
        self.check(garden, ("release", "oak", 1), "NotHeld", place=1)

    def test_orders(self):
        for order in ((), (0,), (0, 0), (0, 2), (0, 1, 2), (False, True), [1, 0], None, "10", 1):
            self.check(planted(), ("reorder", "oak", order), "BadOrder")

    def test_sixty_exchanges(self):
        garden = planted()
        garden.walk("oak", [0, 1] * 30)
        self.check(garden, ("grow", "oak", 0), "Full", most=60)
        self.check(garden, ("walk", "oak", (1,)), "Full", most=60)
        garden.walk("oak", [])
        garden.undo()
        garden.undo()
        self.check(garden, ("walk", "oak", (0, 1) * 30 + (0,)), "Full", most=60)
        garden.grow("oak", 0)

    def test_great(self):
        garden = Garden()
        garden.sow("oak", ((0, 7), (-7, 0), (7, 2)))
        self.check(garden, ("grow", "oak", 0), "Great")
        self.check(garden, ("walk", "oak", (1, 1, 0)), "Great")
        garden.sow("elm", ((0, 50), (-50, 0), (50, 0)))
        self.check(garden, ("grow", "elm", 0), "Great")

    def test_bad_deeds(self):
        for garden in (Garden(), planted(), self.full()):
            before = whole_state(garden)
            deeds = [(), ("mow",), ("mow", "oak"), ("Sow", "ash", TWO), ("sow ", "ash", TWO), ("", "oak"), (7, "oak"),
                     (None,), (True, "oak", 0), (("sow",), "ash", TWO), (["sow"], "ash", TWO), ("undo",), ("redo",),
                     ("ask", "new", ("kind", "oak")), ("exchange", "oak", 0), ("web", "oak"), ("twin",), ("do", ()),
                     ("oak", "grow", 0)]
            for word, many in WORDS.items():
                deeds += [(word,) + ("oak",) * count for count in range(6) if count != many]
            for deed in deeds:
                with self.subTest(deed):
                    self.assertEqual(refusal(garden.do, deed), ("BadDeed", {}))
            self.assertEqual(whole_state(garden), before)

    def test_refused_deeds_leave_what_can_be_done_again(self):
        garden = planted()
        garden.undo()
        garden.undo()
        for deed in (("sow", "oak", TWO), ("grow", "oak", 9), ("graft", "new", "oak", "nobody"), ("mow",), ("sow",)):
            self.assertIsNotNone(refusal(garden.do, deed))
        self.assertEqual([garden.redo(), garden.redo()], [("walk", "elm", (0, 1)), ("hold", "elm", 2)])


class BackAndForthTest(unittest.TestCase):
    def check_nothing_left(self, deed):
        with self.assertRaises(NothingLeft):
            deed()

    def test_nothing_left_at_first(self):
        garden = Garden()
        self.check_nothing_left(garden.undo)
        self.check_nothing_left(garden.redo)
        garden.sow("oak", TWO)
        self.check_nothing_left(garden.redo)
        self.assertEqual(garden.undo(), ("sow", "oak", TWO))
        self.check_nothing_left(garden.undo)
        self.assertEqual(garden.redo(), ("sow", "oak", TWO))
        self.check_nothing_left(garden.redo)

    def test_back_to_the_beginning_and_forth(self):
        source = random.Random(112)
        for _ in range(12):
            garden = Garden()
            states = [garden_state(garden)]
            while len(states) < 16:
                if refusal(garden.do, some_deed(source, NAMES[:4])) is None:
                    states.append(garden_state(garden))
            deeds = garden.done()
            for round_number in range(2):
                for number in reversed(range(15)):
                    self.assertEqual(garden.undo(), deeds[number])
                    self.assertEqual(garden_state(garden), states[number])
                self.check_nothing_left(garden.undo)
                self.assertEqual((garden, len(garden)), (Garden(), 0))
                for number in range(15):
                    self.assertEqual(garden.redo(), deeds[number])
                    self.assertEqual(garden_state(garden), states[number + 1])
                self.check_nothing_left(garden.redo)

    def test_another_deed_leaves_nothing_to_do_again(self):
        garden = planted()
        garden.undo()
        garden.undo()
        garden.hold("oak", 0)
        self.check_nothing_left(garden.redo)
        self.assertEqual(garden.done(), [("sow", "oak", TWO), ("sow", "elm", LONG), ("hold", "oak", 0)])
        self.assertEqual(garden.undo(), ("hold", "oak", 0))
        self.assertEqual(garden.redo(), ("hold", "oak", 0))
        self.assertEqual(garden.undo(), ("hold", "oak", 0))
        self.assertEqual(garden.undo(), ("sow", "elm", LONG))

    def test_the_same_deed_leaves_nothing_to_do_again(self):
        garden = planted()
        garden.undo()
        garden.undo()
        garden.walk("elm", (0, 1))
        self.check_nothing_left(garden.redo)

    def test_exchanges_taken_back_count_no_more(self):
        garden = Garden()
        garden.sow("oak", TWO)
        for _ in range(3):
            garden.walk("oak", [0, 1] * 30)
            garden.undo()
        self.assertEqual(garden.web("oak").done(), [])
        garden.redo()
        self.assertEqual(len(garden.web("oak").done()), 60)

    def test_uprooted_webs_come_back_whole(self):
        garden = planted()
        before = garden_state(garden)
        garden.uproot("elm")
        self.assertEqual(garden.undo(), ("uproot", "elm"))
        self.assertEqual(garden_state(garden), before)

    def test_deeds_told(self):
        garden = Garden()
        garden.sow("oak", TWO)
        garden.walk("oak", [0, 1])
        garden.do(("walk", "oak", [1, 0]))
        garden.walk("oak", [])
        told = garden.done()
        self.assertEqual(told, [("sow", "oak", TWO), ("walk", "oak", (0, 1)), ("walk", "oak", (1, 0)),
                                ("walk", "oak", ())])
        for deed in told + [garden.undo(), garden.redo()]:
            self.assertIs(type(deed), tuple)
            self.assertIs(type(deed[2]), tuple)


class OwnTest(unittest.TestCase):
    def test_web_tells_one_of_its_own(self):
        garden = planted()
        before = whole_state(garden)
        web = garden.web(name="elm")
        self.assertIs(type(web), Web)
        web.release(2)
        web.exchange(2)
        web.hold(0)
        web.reorder((2, 1, 0))
        self.assertEqual(whole_state(garden), before)
        self.assertIsNot(garden.web("elm"), garden.web("elm"))
        told = garden.web("oak")
        garden.grow("oak", 0)
        self.assertEqual(told, Web(TWO))

    def test_web_refused(self):
        for name in ("nobody", *BAD_NAMES):
            self.assertEqual(refusal(planted().web, name), ("NoWeb", {"name": name}))

    def test_handed_lists_stay_and_are_not_kept(self):
        garden = Garden()
        garden.sow("oak", TWO)
        places, others = [0, 1, 0], [1, 0]
        garden.walk("oak", places)
        garden.do(("walk", "oak", others))
        self.assertEqual((places, others), ([0, 1, 0], [1, 0]))
        before = whole_state(garden)
        places.clear()
        others[0] = 7
        self.assertEqual(whole_state(garden), before)
        self.assertEqual(garden.done()[1:], [("walk", "oak", (0, 1, 0)), ("walk", "oak", (1, 0))])

    def test_told_lists_are_new_ones(self):
        garden = planted()
        garden.ask("one", ("kind", "oak"))
        before = whole_state(garden)
        for ask in (garden.done, garden.names, garden.asks):
            self.assertIs(type(ask()), list)
            told = ask()
            told.append(None)
            told[0] = None
            told.reverse()
        self.assertEqual(whole_state(garden), before)
        told = garden.news()
        self.assertEqual(told, [("one", "finite")])
        told.clear()
        self.assertEqual(garden.news(), [])

    def test_gardens_made_apart(self):
        one, other = Garden(), Garden()
        one.sow("oak", TWO)
        one.ask("kinds", ("kind", "oak"))
        one.news()
        self.assertEqual((garden_state(other), other.news()), (garden_state(Garden()), []))
        self.assertIsNotNone(refusal(other.undo))

    def test_equal(self):
        one, other = planted(), Garden()
        self.assertFalse(one == other)
        other.sow("elm", LONG)
        other.hold("elm", 2)
        other.walk("elm", [1, 1, 0])
        other.grow("elm", 1)
        self.assertTrue(one != other)
        other.sow("oak", TWO)
        self.assertTrue(one == other)
        self.assertFalse(one != other)
        self.assertNotEqual(one.done(), other.done())
        other.hold("oak", 0)
        self.assertFalse(one == other)
        other.release("oak", 0)
        other.ask("kinds", ("kind", "oak"))
        self.assertTrue(one == other)
        other.graft("new", "oak", "oak")
        self.assertFalse(one == other)
        self.assertTrue(Garden(limit=1) == Garden())
        for thing in (None, 0, {}, "", (), [], Web(TWO)):
            self.assertFalse(Garden() == thing)
            self.assertTrue(Garden() != thing)

    def test_names_count_where_webs_are_alike(self):
        one, other = Garden(), Garden()
        one.sow("oak", TWO)
        other.sow("elm", TWO)
        self.assertFalse(one == other)
        one.sow("elm", ONE)
        other.sow("oak", ONE)
        self.assertFalse(one == other)


class TwinTest(unittest.TestCase):
    def test_it_has_all(self):
        source = random.Random(113)
        for _ in range(12):
            garden = some_garden(source, 25, NAMES[:4])
            garden.ask("one", ("kind", "oak"))
            twin = garden.twin()
            self.assertIs(type(twin), Garden)
            self.assertEqual(whole_state(twin), whole_state(garden))
            self.assertTrue(twin == garden)

    def test_it_has_the_limit(self):
        garden = Garden(limit=1)
        garden.sow("oak", TWO)
        self.assertEqual(refusal(garden.twin().sow, "elm", TWO), ("Full", {"most": 1}))

    def change(self, garden):
        garden.grow("oak", 0)
        garden.sow("new", RING)
        garden.release("elm", 2)
        garden.graft("both", "oak", "oak")
        garden.uproot("oak")
        garden.undo()
        garden.ask("more", ("kind", "new"))
        garden.unask("one")
        garden.news()

    def test_each_goes_its_own_way(self):
        for turn in range(3):
            garden = planted()
            garden.ask("one", ("kind", "oak"))
            garden.ask("two", ("terms", "elm", 0))
            garden.news()
            garden.undo()
            garden.redo()
            twin = garden.twin().twin() if turn == 2 else garden.twin()
            changed, left = (garden, twin) if turn == 0 else (twin, garden)
            before = whole_state(left)
            self.change(changed)
            self.assertEqual(whole_state(left), before)
            after = whole_state(changed)
            left.undo()
            left.undo()
            left.unask("two")
            left.news()
            self.assertEqual(whole_state(changed), after)

    def test_taking_back_and_doing_again_in_either(self):
        garden = planted()
        garden.undo()
        twin = garden.twin()
        self.assertEqual(twin.redo(), ("hold", "elm", 2))
        self.assertEqual(garden.redo(), ("hold", "elm", 2))
        twin.undo()
        twin.undo()
        twin.hold("oak", 1)
        self.assertIsNotNone(refusal(twin.redo))
        garden.undo()
        garden.undo()
        self.assertEqual(garden.redo(), ("walk", "elm", (0, 1)))
        self.assertEqual(garden.redo(), ("hold", "elm", 2))


if __name__ == "__main__":
    unittest.main()
