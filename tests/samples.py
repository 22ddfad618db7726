"""Tables that many tests want, and slow ways to judge and turn them."""

import itertools
import math

from budwright.errors import Great
from budwright.webs import Web

ONE = ((0,),)
TWO = ((0, 1), (-1, 0))
TALL = ((0, 2), (-1, 0), (1, 0), (-3, 50))
RING = ((0, 1, -1), (-1, 0, 1), (1, -1, 0))
FOUR = ((0, 1, 0, -1), (-1, 0, 1, 0), (0, -1, 0, 1), (1, 0, -1, 0))
EVEN = (ONE, TWO, TALL, RING, FOUR, ((0, 0), (0, 0)), ((0, 50), (-50, 0)), ((0,),) + ((-50,),) * 4, FOUR + FOUR)
UNEVEN = (
    ((1,),), ((-1,),), ((0, 1), (1, 0)), ((0, -1), (-1, 0)), ((0, 1), (0, 0)), ((0, 0), (-2, 0)), ((0, 1), (-1, 3)),
    ((0, 1, -2), (-1, 0, 1), (1, -1, 0)),
    ((0, 2, 0, -1), (-1, 0, 1, 0), (0, -1, 0, 1), (1, 0, -1, 0)),
    ((0, 1), (1, 0), (5, 5)),
)
NO_TABLES = (
    (), [], None, 0, "0", "0,1;-1,0", {}, ((),), ((), ()), (0,), (0, 0), ([0],), [(0,)], [[0]], ((0, 1), [-1, 0]),
    ([0, 1], (-1, 0)), ((0, 1),), ((0, 1), (-1,)), ((0,), (1, 2)), ((0, 1), (-1, 0, 0)), ((0, 1), (-1, 0), ()),
    ((0, True), (-1, 0)), ((False,),), ((0,), (True,)), ((0,), ("1",)), ((0,), (None,)), ((0,), (1.0,)),
    ((0, 51), (-51, 0)), ((0, 1), (-51, 0)), ((0,), (51,)), ((0,), (-51,)), ((0,),) * 6, TWO + ((0, 0),) * 5,
    FOUR + ((0, 0, 0, 0),) * 5, FOUR[:3], tuple([(0,) * 5] * 5), ((0,), (0,), 3), ({0},), ((0, (1,)), (-1, 0)),
)
NO_NUMBERS = (True, False, None, "0", "", (0,), [0], 0.0)


def tree(many, *pairs):
    """A table without roots from pairs (i, j, tie of i to j, tie of j to i)."""
    rows = [[0] * many for _ in range(many)]
    for i, j, there, back in pairs:
        rows[i][j], rows[j][i] = there, back
    return tuple(map(tuple, rows))


# Tables of each letter of [15]; in those that are belts, buds are up and down by turns.
LETTERED = {
    "A1": (ONE,),
    "A2": (TWO, ((0, -1), (1, 0))),
    "A3": (tree(3, (0, 1, 1, -1), (1, 2, -1, 1)), tree(3, (0, 1, 1, -1), (1, 2, 1, -1)), RING),
    "A4": (tree(4, (0, 1, 1, -1), (1, 2, -1, 1), (2, 3, 1, -1)), tree(4, (0, 2, 1, -1), (2, 1, 1, -1), (1, 3, 1, -1))),
    "B2": (((0, 1), (-2, 0)), ((0, 2), (-1, 0)), ((0, -2), (1, 0))),
    "B3": (tree(3, (0, 1, 1, -1), (1, 2, -1, 2)), tree(3, (0, 1, 1, -1), (1, 2, -2, 1)),
           tree(3, (0, 1, 1, -1), (1, 2, 2, -1)), tree(3, (0, 1, -2, 1), (1, 2, -1, 1))),
    "B4": (tree(4, (0, 1, 1, -1), (1, 2, -1, 1), (2, 3, 1, -2)), tree(4, (0, 1, 1, -1), (1, 2, -1, 1), (2, 3, 2, -1)),
           tree(4, (0, 1, 2, -1), (1, 2, 1, -1), (2, 3, 1, -1))),
    "D4": (tree(4, (0, 1, 1, -1), (0, 2, 1, -1), (0, 3, 1, -1)), FOUR,
           tree(4, (1, 0, 1, -1), (1, 2, -1, 1), (1, 3, 1, -1))),
    "F4": (tree(4, (0, 1, 1, -1), (1, 2, -1, 2), (2, 3, 1, -1)), tree(4, (0, 1, 1, -1), (1, 2, -2, 1), (2, 3, 1, -1)),
           tree(4, (0, 1, 1, -1), (1, 2, 2, -1), (2, 3, 1, -1))),
    "G2": (((0, 1), (-3, 0)), ((0, 3), (-1, 0)), ((0, -1), (3, 0))),
}
# Of each letter so many buds, webs, and rounds of a belt.
COUNTED = {
    "A1": (2, 2, 2), "A2": (5, 5, 5), "A3": (9, 14, 6), "A4": (14, 42, 7), "B2": (6, 6, 3), "B3": (12, 20, 4),
    "B4": (20, 70, 5), "D4": (16, 50, 4), "F4": (28, 105, 7), "G2": (8, 8, 4),
}
ENDLESS = (
    ((0, 2), (-2, 0)), ((0, 1), (-4, 0)), ((0, 50), (-50, 0)), ((0, -1), (4, 0)), ((0, 1), (-5, 0), (3, 3)),
    tree(3, (0, 1, 1, -1), (1, 2, 1, -1), (0, 2, 1, -1)), tree(3, (0, 1, 1, -1), (1, 2, 1, -3)),
    tree(3, (0, 1, 1, -2), (1, 2, 1, -2)), tree(3, (0, 1, 2, -2), (1, 2, 2, -2), (2, 0, 2, -2)),
    tree(4, (0, 1, 2, -1), (1, 2, 1, -1), (2, 3, 1, -2)), tree(4, (0, 1, 1, -1), (0, 2, 1, -1), (0, 3, 1, -2)),
    tree(4, (0, 1, 1, -1), (2, 3, 2, -2)),
    tree(4, (0, 1, 1, -1), (1, 2, 1, -1), (2, 3, 1, -1), (0, 3, 1, -1)),
)


def is_barring(table, ring):
    many = len(table[0])
    if not isinstance(ring, tuple) or not all(type(bud) is int and 0 <= bud < many for bud in ring):
        return False
    if len(ring) == 2:
        i, j = ring
        ties = (table[i][j], table[j][i])
        return i <= j and ties != (0, 0) and not (min(ties) < 0 < max(ties))
    if len(ring) not in (3, 4) or len(set(ring)) != len(ring):
        return False
    pairs = list(zip(ring, ring[1:] + ring[:1]))
    there, back = math.prod(table[i][j] for i, j in pairs), math.prod(table[j][i] for i, j in pairs)
    return abs(there) != abs(back)


def some_even_table(source, many, roots, span=3):
    """A table made of weights, so that it is even whatever comes."""
    weight = [source.randint(1, 4) for _ in range(many)]
    rows = [[0] * many for _ in range(many + roots)]
    for i, j in itertools.combinations(range(many), 2):
        goes = source.randint(-span, span)
        shared = math.gcd(weight[i], weight[j])
        rows[i][j], rows[j][i] = goes * weight[j] // shared, -goes * weight[i] // shared
    for i in range(many, many + roots):
        rows[i] = [source.randint(-span, span) for _ in range(many)]
    return tuple(map(tuple, rows))


def with_roots(source, table, roots, span=2):
    """The table with some roots behind it."""
    return table + tuple(tuple(source.randint(-span, span) for _ in table[0]) for _ in range(roots))


def slow_turned(table, k):
    def sign(number):
        return (number > 0) - (number < 0)

    def tie(i, j):
        if k in (i, j):
            return -table[i][j]
        return table[i][j] + sign(table[i][k]) * max(0, table[i][k] * table[k][j])

    return tuple(tuple(tie(i, j) for j in range(len(table[0]))) for i in range(len(table)))


def greatest_tie(table):
    return max(abs(tie) for row in table for tie in row)


def wandered(source, table, steps):
    """A web of the table behind exchanges here and there, without those that are refused."""
    web = Web(table)
    for _ in range(steps):
        try:
            web.exchange(source.randrange(len(web)))
        except Great:
            pass
    return web


def falling(web):
    """Leans, hues and buds' ties of a web in the order of falling leans."""
    order = sorted(range(len(web)), key=lambda bud: web.leans()[bud], reverse=True)
    return (tuple(web.leans()[bud] for bud in order), tuple(web.hues()[bud] for bud in order),
            tuple(tuple(web.table()[bud][other] for other in order) for bud in order))
