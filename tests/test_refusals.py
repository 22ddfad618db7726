"""Each refusal of the interface, raised by calls: its word, its fields, and what it stands under."""

import unittest

from budwright import errors
from budwright.garden import Garden
from budwright.kinds import kind
from budwright.maps import WebMap
from budwright.pages import read_deed, read_page
from budwright.polygons import cut_table, cuts, flip, flipped, lengths
from budwright.sums import Sum, constant, letter, read_sum
from budwright.tables import barred, beside, read_table, reordered, turned, weights
from budwright.walks import belt, frieze, inner, leaned, ring_length, walked
from budwright.webs import Web
from samples import ENDLESS, FOUR, ONE, RING, TWO, is_barring, tree

UNEVEN_PAIR = ((0, 1), (1, 0))
SEVENS = ((0, 7), (-7, 0), (7, 2))
FIFTIES = ((0, 50), (-50, 0), (50, 0))


def wide():
    """A sum of 400 products."""
    return Sum(1, [((power,), 1) for power in range(400)])


def held_web():
    web = Web(TWO)
    web.hold(1)
    return web


def garden(limit=8):
    made = Garden(limit=limit)
    made.sow("oak", TWO)
    made.hold("oak", 1)
    for name in ("a", "b", "c", "d", "e", "f"):
        made.ask(name, ("kind", "oak"))
    return made


CALLS = {
    "BadSum": ("bad sum", [
        (lambda: Sum(2, [((1,), 1)]), {}), (lambda: letter(1, 0).plus(letter(2, 0)), {}),
        (lambda: constant(0, 1).times(constant(1, 1)), {}), (lambda: letter(1, 0).worth([]), {}),
        (lambda: Sum(1).least([]), {}), (lambda: Sum(1).shared(Sum(2)), {})]),
    "BadTable": ("bad table", [
        (lambda: weights(()), {}), (lambda: barred([[0]]), {}), (lambda: Web(((0, 51), (-51, 0))), {}),
        (lambda: garden().sow("elm", ((0, 1),)), {}), (lambda: read_table("0,1"), {})]),
    "Great": ("great", [
        (lambda: turned(FIFTIES, 0), {}), (lambda: Web(SEVENS).exchange(0), {}),
        (lambda: wide().plus(letter(1, 0, by=-1)), {}), (lambda: inner(((0, 7), (-7, 0)), [0, 1] * 9), {}),
        (lambda: frieze(((0, 9), (-9, 0)), 12), {}), (lambda: leaned(FIFTIES, [0], [1, 1, 1]), {}),
        (lambda: walked(((0,), (50,)), [0], [(1, 1), (10 ** 29, 1)]), {})]),
    "BadOrder": ("bad order", [
        (lambda: reordered(TWO, (0,)), {}), (lambda: Web(TWO).reorder((0, 0)), {}),
        (lambda: ring_length(TWO, 1, 1), {}), (lambda: garden().reorder("oak", ()), {})]),
    "BadCut": ("bad cut", [
        (lambda: cuts(3), {}), (lambda: cut_table(4, ()), {}), (lambda: flipped(4, ((0, 2),), (1, 3)), {}),
        (lambda: flip(5, ((0, 2), (0, 3)), (2, 0)), {}), (lambda: lengths(8, ((0, 2),), [(1, 1)]), {})]),
    "Mixed": ("mixed", [(lambda: belt(RING), {}), (lambda: belt(tree(3, (0, 1, 1, -1), (1, 2, 1, -1))), {})]),
    "BadName": ("bad name", [
        (lambda: garden().sow("Oak", TWO), {}), (lambda: garden().graft("", "oak", "oak"), {}),
        (lambda: garden().ask("abcdefghi", ("kind", "oak")), {})]),
    "BadAsk": ("bad ask", [
        (lambda: Garden().ask("one", ("kind",)), {}), (lambda: Garden().ask("one", ("mood", "oak")), {})]),
    "BadDeed": ("bad deed", [(lambda: garden().do(("mow", "oak")), {}), (lambda: garden().do(("sow", "elm")), {})]),
    "Held": ("held", [
        (lambda: held_web().exchange(1), {"place": 1}), (lambda: held_web().hold(1), {"place": 1}),
        (lambda: held_web().walk([0, 1]), {"place": 1}), (lambda: garden().grow("oak", 1), {"place": 1})]),
    "NotHeld": ("not held", [
        (lambda: held_web().release(0), {"place": 0}), (lambda: garden().release("oak", 0), {"place": 0})]),
    "Taken": ("taken", [
        (lambda: garden().sow("oak", TWO), {"name": "oak"}), (lambda: garden().graft("oak", "x", "y"), {"name": "oak"}),
        (lambda: garden().ask("a", ("kind", "oak")), {"name": "a"})]),
    "Full": ("full", [
        (lambda: beside(FOUR, ONE), {"most": 4}), (lambda: Web(TWO).walk([0] * 61), {"most": 60}),
        (lambda: garden(1).sow("elm", TWO), {"most": 1}), (lambda: garden(1).graft("elm", "x", "y"), {"most": 1}),
        (lambda: garden().ask("g", ("kind", "oak")), {"most": 6})]),
    "BadText": ("bad text", [
        (lambda: read_sum("b", width=1), {"at": 0}), (lambda: read_table("0;"), {"at": 0}),
        (lambda: read_deed("sow oak"), {"at": 0}), (lambda: read_page("sow oak 0\nsow oak 0\n"), {"at": 1}),
        (lambda: read_page("sow oak 0\ngrow oak 0\nhold oak 0"), {"at": 2})]),
    "NoPart": ("no part", [
        (lambda: letter(1, 0).shared(Sum(1)), {}), (lambda: letter(1, 0, by=-1).worth([(0, 1)]), {}),
        (lambda: walked(ONE, [0], [(0, 1)]), {})]),
    "NoPlace": ("no place", [
        (lambda: turned(TWO, 2), {"place": 2}), (lambda: Web(TWO).exchange(-1), {"place": -1}),
        (lambda: Web(TWO).bud(2), {"place": 2}), (lambda: ring_length(TWO, 0, 5), {"place": 5}),
        (lambda: inner(TWO, [7]), {"place": 7}), (lambda: WebMap(TWO).way(0, 5), {"place": 5}),
        (lambda: WebMap(TWO).walk_to(-1), {"place": -1}), (lambda: garden().grow("oak", 9), {"place": 9})]),
    "NoWeb": ("no web", [
        (lambda: garden().grow("elm", 0), {"name": "elm"}), (lambda: garden().uproot("elm"), {"name": "elm"}),
        (lambda: garden().web("elm"), {"name": "elm"}), (lambda: garden().graft("new", "elm", "fir"), {"name": "elm"}),
        (lambda: garden().graft("new", "oak", "fir"), {"name": "fir"})]),
    "NoAsk": ("no ask", [(lambda: garden().unask("oak"), {"name": "oak"}), (lambda: Garden().unask(""), {"name": ""})]),
    "NothingLeft": ("nothing left", [(lambda: Garden().undo(), {}), (lambda: garden().redo(), {})]),
}
UNDER = {
    "NoPart": (ZeroDivisionError, ArithmeticError), "NoPlace": (IndexError, LookupError),
    "NoWeb": (errors.Lacking, LookupError), "NoAsk": (errors.Lacking, LookupError), "NothingLeft": (RuntimeError,),
}
ALL = {name: thing for name, thing in vars(errors).items() if isinstance(thing, type)}


class RefusalsTest(unittest.TestCase):
    def check(self, call, name, word):
        """Whether the call is refused so, by no other kind of refusal; tells the refusal."""
        with self.assertRaises(ALL[name]) as caught:
            call()
        error = caught.exception
        self.assertIs(type(error), ALL[name])
        self.assertEqual(error.word, word)
        under = UNDER.get(name, (errors.BudError, ValueError))
        self.assertTrue(all(issubclass(ALL[name], base) for base in under))
        others = {other for other, kin in ALL.items() if other != name and isinstance(error, kin)}
        self.assertEqual(others, {base.__name__ for base in under if base.__name__ in ALL})
        return error

    def test_each_is_raised_by_some_call(self):
        for name, (word, calls) in CALLS.items():
            for number, (call, fields) in enumerate(calls):
                with self.subTest((name, number)):
                    error = self.check(call, name, word)
                    self.assertEqual({field: getattr(error, field) for field in fields}, fields)
        self.assertEqual(set(CALLS) | {"Uneven", "Endless", "BudError", "Lacking"}, set(ALL))

    def test_uneven_tells_a_ring(self):
        for table in (UNEVEN_PAIR, ((1,),), ((0, 1, -2), (-1, 0, 1), (1, -1, 0))):
            for call in (lambda: weights(table), lambda: Web(table), lambda: kind(table), lambda: WebMap(table),
                         lambda: garden().sow("elm", table)):
                self.assertTrue(is_barring(table, self.check(call, "Uneven", "uneven").ring))

    def test_endless_tells_what_kind_tells(self):
        for table in ENDLESS:
            error = self.check(lambda: WebMap(table), "Endless", "endless")
            self.assertEqual(("endless", error.steps, error.one, error.other), kind(table))


if __name__ == "__main__":
    unittest.main()
