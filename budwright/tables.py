"""Tables of ties: whether they are even, their weights, and how they turn."""

from budwright.errors import BadOrder, BadTable, BadText, Full, Great, NoPlace, Uneven
from budwright.figures import is_number, read_rows, rows_text
from budwright.parts import common

MOST_TIE = 50
MOST_BUDS = 4
MOST_ROOTS = 4


def is_row(row, many):
    """Whether it is a tuple of so many ties."""
    if not isinstance(row, tuple) or len(row) != many:
        return False
    return all([is_number(tie) and abs(tie) <= MOST_TIE for tie in row])


def check_form(table):
    """Refuses what is no table."""
    if not isinstance(table, tuple) or len(table) == 0 or not isinstance(table[0], tuple):
        raise BadTable()
    many = len(table[0])
    if not 1 <= many <= MOST_BUDS or not many <= len(table) <= many + MOST_ROOTS:
        raise BadTable()
    if not all([is_row(row, many) for row in table]):
        raise BadTable()


def check_table(table):
    """Refuses what is no table, or no even one."""
    ring = barred(table)
    if ring is not None:
        raise Uneven(ring)


def check_bud(table, place):
    """Refuses what is no bud of a table."""
    if not is_number(place) or not 0 <= place < bud_count(table):
        raise NoPlace(place)


def check_order(table, order):
    """Refuses what isn't a tuple of all buds of a table, each once."""
    if not isinstance(order, tuple) or not all([is_number(bud) for bud in order]):
        raise BadOrder()
    if sorted(order) != list(range(bud_count(table))):
        raise BadOrder()


def bud_count(table):
    return len(table[0])


def unlike_rows(many, length):
    """All tuples of so many unlike numbers below many, rising."""
    rows = [()]
    for step in range(length):
        rows = [row + (number,) for row in rows for number in range(many) if number not in row]
    return rows


def pair_bars(table, i, j):
    one = table[i][j]
    other = table[j][i]
    # Both 0, or of unlike signs: only then do weights above 0 even them out.
    return not (one == 0 and other == 0) and one * other >= 0


def ring_bars(table, ring):
    onward = 1
    back = 1
    for i, j in zip(ring, ring[1:] + ring[:1]):
        onward *= table[i][j]
        back *= table[j][i]
    return abs(onward) != abs(back)


def barred(table):
    """None for an even table, or else a pair or ring of buds that bars it."""
    check_form(table)
    many = bud_count(table)
    for i in range(many):
        for j in range(i, many):
            if pair_bars(table, i, j):
                return (i, j)
    for ring in unlike_rows(many, 3) + unlike_rows(many, 4):
        if ring_bars(table, ring):
            return ring
    return None


def lot_weights(table, first):
    """A dict of the least weights of the buds that hang together with the first one."""
    found = {first: 1}
    waiting = [first]
    while waiting:
        i = waiting.pop()
        for j in range(bud_count(table)):
            if table[i][j] != 0 and j not in found:
                # All others grow, so that the new one's weight is a whole number.
                weight = found[i] * abs(table[i][j])
                found = {bud: found[bud] * abs(table[j][i]) for bud in found}
                found[j] = weight
                waiting.append(j)
    shared = 0
    for bud in found:
        shared = common(shared, found[bud])
    return {bud: found[bud] // shared for bud in found}


def weights(table):
    """A tuple of the buds' least weights."""
    check_table(table)
    found = {}
    for bud in range(bud_count(table)):
        if bud not in found:
            found.update(lot_weights(table, bud))
    return tuple([found[bud] for bud in range(bud_count(table))])


def turned_row(row, up, down, place):
    """The row of a place, other than the bud at which the table turns, by how often its tie to that bud is added."""
    tie = row[place]
    if tie == 0:
        return row
    return tuple([old + tie * often for old, often in zip(row, up if tie > 0 else down)])


def turned_table(table, place):
    """The table, which is even, turned at one of its buds."""
    own = table[place]
    up = [max(0, tie) for tie in own]
    down = [max(0, -tie) for tie in own]
    # The tie to the bud itself becomes minus itself: it is taken off twice.
    up[place] = -2
    down[place] = -2
    rows = [turned_row(row, up, down, place) for row in table]
    rows[place] = tuple([-tie for tie in own])
    if any([max(row) > MOST_TIE or min(row) < -MOST_TIE for row in rows]):
        raise Great()
    return tuple(rows)


def turned(table, place):
    """The table turned at a bud."""
    check_table(table)
    check_bud(table, place)
    return turned_table(table, place)


def reordered(table, order):
    """The table in which at place p stands bud order[p]; roots stay."""
    check_table(table)
    check_order(table, order)
    places = order + tuple(range(bud_count(table), len(table)))
    return tuple([tuple([table[place][bud] for bud in order]) for place in places])


def beside(one, other):
    """The table of both side by side, without ties between them."""
    check_table(one)
    check_table(other)
    left = bud_count(one)
    right = bud_count(other)
    if left + right > MOST_BUDS or len(one) - left + len(other) - right > MOST_ROOTS:
        raise Full(MOST_BUDS)
    ones = [row + (0,) * right for row in one]
    others = [(0,) * left + row for row in other]
    return tuple(ones[:left] + others[:right] + ones[left:] + others[right:])


def unit_rows(many):
    """So many rows, each with 1 at its own place and 0 else."""
    return tuple([tuple([1 if i == j else 0 for j in range(many)]) for i in range(many)])


def principal(table):
    """The table of the same buds' ties with a root for each bud instead of all roots."""
    check_table(table)
    many = bud_count(table)
    return table[:many] + unit_rows(many)


def opposite(table):
    """The table of all ties minus themselves."""
    check_table(table)
    return tuple([tuple([-tie for tie in row]) for row in table])


def table_text(table):
    """The table as it is written in a deed."""
    check_table(table)
    return rows_text(table)


def read_table(text):
    """The table that is written just so."""
    table = read_rows(text)
    if table is None:
        raise BadText(0)
    check_table(table)
    return table
