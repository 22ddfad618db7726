"""Seeds: tuples (ties, hues, leans) of what goes on by exchanges without any sums."""

from budwright.tables import bud_count, turned_table, unit_rows


def first_seed(table):
    """The seed that a web of this table begins with."""
    units = unit_rows(bud_count(table))
    return (table, units, units)


def sign_of(hue):
    """1 for a hue above 0, or else -1: a hue is never all noughts and never on both sides."""
    return 1 if max(hue) > 0 else -1


def minus(row):
    return tuple([-number for number in row])


def added_often(row, more, often):
    """The row with another one added as often as told, never where that is below 0."""
    if often <= 0:
        return row
    return tuple([a + often * b for a, b in zip(row, more)])


def turned_hues(ties, hues, place):
    own = hues[place]
    sign = sign_of(own)
    rows = [added_often(hue, own, sign * tie) for hue, tie in zip(hues, ties[place])]
    rows[place] = minus(own)
    return tuple(rows)


def fresh_lean(ties, hues, leans, place):
    """The lean of the bud that an exchange puts in this place."""
    sign = sign_of(hues[place])
    fresh = minus(leans[place])
    # A bud's tie to itself is 0, so its own lean isn't added; the rows of roots have no lean beside them.
    for lean, row in zip(leans, ties):
        fresh = added_often(fresh, lean, -sign * row[place])
    return fresh


def turned_leans(ties, hues, leans, place):
    return leans[:place] + (fresh_lean(ties, hues, leans, place),) + leans[place + 1:]


def turned_seed(seed, place):
    """The seed behind an exchange at one of its buds; refused where the table's turning is."""
    ties, hues, leans = seed
    return (turned_table(ties, place), turned_hues(ties, hues, place), turned_leans(ties, hues, leans, place))
