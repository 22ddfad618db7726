"""Kinds: whether ever finitely many buds come from a table's web, and what shows it."""

from budwright.errors import Great
from budwright.figures import is_number
from budwright.tables import bud_count, check_table, turned_table

# Of each letter so many buds and webs.
COUNTS = {
    "A1": (2, 2), "A2": (5, 5), "A3": (9, 14), "A4": (14, 42), "B2": (6, 6), "B3": (12, 20), "B4": (20, 70),
    "D4": (16, 50), "F4": (28, 105), "G2": (8, 8),
}
# Ties of two buds to one another that, multiplied, come to this or beyond never bring back the same buds.
ENDLESS_TIES = -4


def tied_pairs(rows, lot):
    """The list of pairs of buds of the lot that are tied, rising."""
    return [(i, j) for i in lot for j in lot if i < j and rows[i][j] != 0]


def endless_pair(rows):
    """The first pair of buds whose ties alone show that buds don't end, or None."""
    for i, j in tied_pairs(rows, list(range(len(rows)))):
        if rows[i][j] * rows[j][i] <= ENDLESS_TIES:
            return (i, j)
    return None


def explored(rows):
    """A dict from tables that turnings bring to walks there, and the one among them that shows endlessness, or None.

    Up to that one no ties multiplied are beyond -3: so they are few, and no turning comes near to MOST_TIE.
    """
    walks = {rows: ()}
    waiting = [rows]
    at = 0
    while at < len(waiting):
        now = waiting[at]
        if endless_pair(now) is not None:
            return walks, now
        for place in range(len(now)):
            after = turned_table(now, place)
            if after not in walks:
                walks[after] = walks[now] + (place,)
                waiting.append(after)
        at += 1
    return walks, None


def lot_of(rows, first):
    """The list of buds that hang together with the first one, rising."""
    found = [first]
    at = 0
    while at < len(found):
        found = found + [bud for bud, tie in enumerate(rows[found[at]]) if tie != 0 and bud not in found]
        at += 1
    return sorted(found)


def lots(rows):
    """The list of all lots of buds that hang together."""
    found = [lot_of(rows, bud) for bud in range(len(rows))]
    return [lot for bud, lot in enumerate(found) if lot[0] == bud]


def family(rows, pairs):
    """The letter, without its number, that is told by the tied pairs of a lot, one fewer than its buds."""
    ends = [bud for pair in pairs for bud in pair]
    for i, j in pairs:
        tied = rows[i][j] * rows[j][i]
        if tied == -3:
            return "G"
        if tied == -2:
            return "F" if ends.count(i) > 1 and ends.count(j) > 1 else "B"
    return "D" if any([ends.count(bud) == 3 for bud in ends]) else "A"


def lot_letter(tables, lot):
    """The letter of a lot, by the first of the tables in which its tied pairs are one fewer than its buds."""
    for rows in tables:
        pairs = tied_pairs(rows, lot)
        if len(pairs) == len(lot) - 1:
            return f"{family(rows, pairs)}{len(lot)}"
    return None


def kind(table):
    """("finite", letters, buds, webs) or ("endless", walk, one, other)."""
    check_table(table)
    rows = table[:bud_count(table)]
    walks, shown = explored(rows)
    if shown is not None:
        one, other = endless_pair(shown)
        return ("endless", walks[shown], one, other)
    letters = sorted([lot_letter(walks, lot) for lot in lots(rows)])
    buds = 0
    webs = 1
    for name in letters:
        buds += COUNTS[name][0]
        webs *= COUNTS[name][1]
    return ("finite", tuple(letters), buds, webs)


def is_bud(rows, number):
    return is_number(number) and 0 <= number < len(rows)


def rows_behind(rows, walk):
    """The buds' rows behind a walk, or None where it leaves the buds or a tie comes beyond MOST_TIE."""
    for place in walk:
        if not is_bud(rows, place):
            return None
        try:
            rows = turned_table(rows, place)
        except Great:
            return None
    return rows


def endless_holds(table, walk, one, other):
    """Whether the walk leads to a table in which these two buds show that buds don't end."""
    check_table(table)
    rows = rows_behind(table[:bud_count(table)], walk)
    if rows is None or not is_bud(rows, one) or not is_bud(rows, other):
        return False
    return rows[one][other] * rows[other][one] <= ENDLESS_TIES
