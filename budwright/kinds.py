"""Kinds: whether ever finitely many buds come from a table's web, and what shows it."""

from budwright.errors import Great
from budwright.figures import is_number
from budwright.tables import bud_count, check_table, turned_table

# Of each letter so many buds and webs.
COUNTS = {
    "A1": (2, 2), "A2": (5, 5), "A3": (9, 14), "A4": (14, 42), "B2": (6, 6), "B3": (12, 20), "B4": (20, 70),
    "D4": (16, 50), "F4": (28, 105), "G2": (8, 8),
}
# Ties of two buds to one another that, multiplied, come to this or beyond never bring back the same buds.
ENDLESS_TIES = -4


def tied_pairs(rows, lot):
    """The list of pairs of buds of the lot that are tied, rising."""
    return [(i, j) for i in lot for j in lot if i < j and rows[i][j] != 0]


def endless_pair(rows):
    """The first pair of buds whose ties alone show that buds don't end, or None."""
    for i, j in tied_pairs(rows, list(range(len(rows)))):
        if rows[i][j] * rows[j][i] <= ENDLESS_TIES:
            return (i, j)
    return None


def lot_of(rows, first):
    """The list of buds that hang together with the first one, rising."""
    found = [first]
    at = 0
    while at < len(found):
        found = found + [bud for bud, tie in enumerate(rows[found[at]]) if tie != 0 and bud not in found]
        at += 1
    return sorted(found)


def lots(rows):
    """The list of all lots of buds that hang together."""
    found = [lot_of(rows, bud) for bud in range(len(rows))]
    return [lot for bud, lot in enumerate(found) if lot[0] == bud]


def family(tied, reach):
    """The letter, without its number, that tied pairs one fewer than their buds tell, or None where buds don't end.

    Tied is, for each pair, its ties multiplied; reach is in how many pairs each of its two buds is.
    """
    starred = any([3 in both for both in reach])
    if tied.count(-1) == len(tied):
        return "D" if starred else "A"
    if tied == [-3]:
        return "G"
    if starred or tied.count(-2) != 1 or tied.count(-1) != len(tied) - 1:
        return None
    return "F" if reach[tied.index(-2)] == (2, 2) else "B"


def lot_letter(rows, lot):
    """The letter of a lot, or None where these rows don't tell it."""
    pairs = tied_pairs(rows, lot)
    if len(pairs) != len(lot) - 1:
        return None
    ends = [bud for pair in pairs for bud in pair]
    told = family([rows[i][j] * rows[j][i] for i, j in pairs], [(ends.count(i), ends.count(j)) for i, j in pairs])
    return None if told is None else f"{told}{len(lot)}"


def finite_told(letters):
    """What is told of a table of a finite kind with these letters."""
    buds = 0
    webs = 1
    for name in letters:
        buds += COUNTS[name][0]
        webs *= COUNTS[name][1]
    return ("finite", tuple(sorted(letters)), buds, webs)


def add_turned(walks, waiting, now):
    """Adds the tables that turnings of one bring, where they are new, to those that wait, and walks to them."""
    for place in range(len(now)):
        after = turned_table(now, place)
        if after not in walks:
            walks[after] = walks[now] + (place,)
            waiting.append(after)


def kind(table):
    """("finite", letters, buds, webs) or ("endless", walk, one, other)."""
    check_table(table)
    rows = table[:bud_count(table)]
    parted = lots(rows)
    walks = {rows: ()}
    waiting = [rows]
    at = 0
    # Some table always tells. Up to it no ties multiplied are beyond -3: so tables are few, and none nears MOST_TIE.
    while True:
        now = waiting[at]
        pair = endless_pair(now)
        if pair is not None:
            return ("endless", walks[now], pair[0], pair[1])
        letters = [lot_letter(now, lot) for lot in parted]
        if None not in letters:
            return finite_told(letters)
        add_turned(walks, waiting, now)
        at += 1


def is_bud(rows, number):
    return is_number(number) and 0 <= number < len(rows)


def rows_behind(rows, walk):
    """The buds' rows behind a walk, or None where it leaves the buds or a tie comes beyond MOST_TIE."""
    for place in walk:
        if not is_bud(rows, place):
            return None
        try:
            rows = turned_table(rows, place)
        except Great:
            return None
    return rows


def endless_holds(table, walk, one, other):
    """Whether the walk leads to a table in which these two buds show that buds don't end."""
    check_table(table)
    rows = rows_behind(table[:bud_count(table)], walk)
    if rows is None or not is_bud(rows, one) or not is_bud(rows, other):
        return False
    return rows[one][other] * rows[other][one] <= ENDLESS_TIES
