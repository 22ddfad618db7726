"""Polygons cut by chords: flips are exchanges, chords are buds."""

from budwright.errors import BadCut
from budwright.figures import is_number
from budwright.parts import lowest_terms

LEAST_CORNERS = 4
MOST_CORNERS = 7


def is_polygon(corners):
    return is_number(corners) and LEAST_CORNERS <= corners <= MOST_CORNERS


def rising_corners(corners, many):
    """The list of all rising tuples of so many corners, rising."""
    rows = [()]
    for step in range(many):
        rows = [row + (corner,) for row in rows for corner in range(corners) if len(row) == 0 or row[-1] < corner]
    return rows


def is_side(corners, pair):
    """Whether a pair of corners, the lower one first, are neighbours."""
    low, high = pair
    return high - low in (1, corners - 1)


def all_chords(corners):
    """The list of all chords of a polygon, rising."""
    return [pair for pair in rising_corners(corners, 2) if not is_side(corners, pair)]


def crosses(one, other):
    """Whether the ends of two chords lie by turns round the polygon."""
    return one[0] < other[0] < one[1] < other[1] or other[0] < one[0] < other[1] < one[1]


def fits_behind(chord, row):
    """Whether a chord comes behind a row of chords, rising, and crosses none of them."""
    if len(row) > 0 and chord <= row[-1]:
        return False
    return not any([crosses(chord, other) for other in row])


def cuts(corners):
    """The list of all cuts of a polygon, rising."""
    if not is_polygon(corners):
        raise BadCut()
    chords = all_chords(corners)
    rows = [()]
    for step in range(corners - 3):
        rows = [row + (chord,) for row in rows for chord in chords if fits_behind(chord, row)]
    return rows


def is_chord(corners, pair):
    """Whether it is a pair (low, high) of numbers of corners that aren't neighbours."""
    if not isinstance(pair, tuple) or len(pair) != 2 or not all([is_number(corner) for corner in pair]):
        return False
    return 0 <= pair[0] < pair[1] < corners and not is_side(corners, pair)


def is_cut(corners, chords):
    """Whether the chords are a cut of a polygon of so many corners."""
    if not is_polygon(corners) or not isinstance(chords, tuple) or len(chords) != corners - 3:
        return False
    if not all([is_chord(corners, chord) for chord in chords]):
        return False
    return all([fits_behind(chord, chords[:at]) for at, chord in enumerate(chords)])


def check_cut(corners, chords):
    if not is_cut(corners, chords):
        raise BadCut()


def sides_round(part):
    """The three sides of a three-cornered part as they come round it."""
    x, y, z = part
    return [(x, y), (y, z), (x, z)]


def cut_parts(corners, chords):
    """The list of the three-cornered parts of a cut."""
    # No chord runs through three corners that are tied by sides and chords, for it would cross one of these.
    return [part for part in rising_corners(corners, 3)
            if all([pair in chords or is_side(corners, pair) for pair in sides_round(part)])]


def cut_table(corners, chords):
    """The table of a cut, whose buds are the chords in order."""
    check_cut(corners, chords)
    steps = []
    for part in cut_parts(corners, chords):
        first, second, third = sides_round(part)
        steps.extend([(first, second), (second, third), (third, first)])
    return tuple([tuple([steps.count((i, j)) - steps.count((j, i)) for j in chords]) for i in chords])


def flipped(corners, chords, chord):
    """The chord that a flip puts in the place of one of a cut."""
    check_cut(corners, chords)
    if not is_chord(corners, chord) or chord not in chords:
        raise BadCut()
    # A chord is a side of two parts; the corner that each has beside is an end of the new one.
    touching = [part for part in cut_parts(corners, chords) if chord in sides_round(part)]
    return tuple(sorted([corner for part in touching for corner in part if corner not in chord]))


def flip(corners, chords, chord):
    """The cut with one of its chords flipped."""
    fresh = flipped(corners, chords, chord)
    return tuple(sorted([fresh if other == chord else other for other in chords]))


def product_of(one, other):
    """Two worths multiplied, as a pair (top, under) in whatever terms."""
    return (one[0] * other[0], one[1] * other[1])


def other_worth(worths, four, known):
    """The worth that, times the known one, is the sum of the products of opposite sides of four rising corners."""
    a, b, c, d = four
    one = product_of(worths[(a, b)], worths[(c, d)])
    other = product_of(worths[(b, c)], worths[(a, d)])
    top = (one[0] * other[1] + other[0] * one[1]) * known[1]
    under = one[1] * other[1] * known[0]
    return lowest_terms(top, under, under)


def found_across(worths, four):
    """A dict of the worth of the one chord across four rising corners that alone isn't known yet, or an empty one."""
    a, b, c, d = four
    if not all([pair in worths for pair in ((a, b), (b, c), (c, d), (a, d))]):
        return {}
    for chord, other in (((a, c), (b, d)), ((b, d), (a, c))):
        if chord in worths and other not in worths:
            return {other: other_worth(worths, four, worths[chord])}
    return {}


def lengths(corners, chords, parts):
    """A dict from all chords to their worths, from those of a cut's chords."""
    check_cut(corners, chords)
    if len(parts) != len(chords):
        raise BadCut()
    chords_in_all = all_chords(corners)
    fours = rising_corners(corners, 4)
    worths = {pair: (1, 1) for pair in rising_corners(corners, 2) if is_side(corners, pair)}
    worths.update({chord: part for chord, part in zip(chords, parts)})
    # Flips lead from each cut to all others, so in each round some worth is found until none is left.
    while not all([chord in worths for chord in chords_in_all]):
        for four in fours:
            found = found_across(worths, four)
            worths.update(found)
    return {chord: worths[chord] for chord in chords_in_all}
