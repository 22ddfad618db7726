"""What is told of walks through webs: inner sums, worths, least and greatest ways, friezes and belts."""

from budwright.errors import BadOrder, Great, Mixed, NoPart
from budwright.parts import lowest_terms, power_of
from budwright.products import added_powers, lessened_powers
from budwright.seeds import first_seed, turned_seed
from budwright.sums import Sum
from budwright.tables import bud_count, check_bud, check_table, principal, turned_table
from budwright.webs import exchanged, first_sums

# Tops and unders of worths stay below this: they have at most sixty figures.
GREAT_WORTH = 10 ** 60
RING_LENGTHS = {0: 4, -1: 5, -2: 6, -3: 8}


def reduced(walk):
    """The list that is left where neighbours alike are taken out until there are none."""
    left = []
    for place in walk:
        if len(left) > 0 and left[-1] == place:
            left.pop()
        else:
            left.append(place)
    return left


def inner_sum(bud, many):
    """What is left of a bud of a principal web of so many buds where all first buds are set to 1."""
    return Sum(many, [(powers[many:], count) for powers, count in bud.terms()])


def inner(table, walk):
    """The list of the buds' inner sums behind a walk."""
    ties = principal(table)
    sums = first_sums(len(ties))
    for place in walk:
        check_bud(ties, place)
        after = turned_table(ties, place)
        sums = exchanged(ties, sums, place)
        ties = after
    many = bud_count(table)
    return [inner_sum(bud, many) for bud in sums[:many]]


def replaced_powers(table, powers):
    """The powers of all places where letter j stands for all places' letters i to the power of the tie of i to j."""
    return tuple([sum([power * tie for power, tie in zip(powers, row)]) for row in table])


def parted(table, lean, inner):
    """The bud that has this lean and this inner sum."""
    check_table(table)
    roots = (0,) * (len(table) - bud_count(table))
    ahead = tuple(lean) + roots
    whole = Sum(len(table), [(added_powers(ahead, replaced_powers(table, powers)), count)
                             for powers, count in inner.terms()])
    if len(whole) == 0:
        return whole
    off = (0,) * bud_count(table) + whole.lowest()[bud_count(table):]
    return Sum(len(table), [(lessened_powers(powers, off), count) for powers, count in whole.terms()])


def side_worth(worths, column):
    """A pair (top, under), in whatever terms, of all worths whose tie is above 0, each as often as it says."""
    top = 1
    under = 1
    for worth, tie in zip(worths, column):
        if tie > 0:
            top *= power_of(worth[0], tie)
            under *= power_of(worth[1], tie)
    return (top, under)


def new_worth(ties, worths, place):
    """The worth, as a part, that an exchange puts in the place of one that isn't nought."""
    column = [row[place] for row in ties]
    top, under = side_worth(worths, column)
    more, below = side_worth(worths, [-tie for tie in column])
    old_top, old_under = worths[place]
    root = old_top
    for worth in worths:
        root *= worth[1]
    fresh = lowest_terms((top * below + more * under) * old_under, under * below * old_top, root)
    if abs(fresh[0]) >= GREAT_WORTH or fresh[1] >= GREAT_WORTH:
        raise Great()
    return fresh


def worth_step(ties, worths, place):
    """A pair (ties, worths) behind an exchange."""
    check_bud(ties, place)
    if worths[place][0] == 0:
        raise NoPart()
    after = turned_table(ties, place)
    fresh = new_worth(ties, worths, place)
    return (after, worths[:place] + [fresh] + worths[place + 1:])


def walked(table, walk, parts):
    """The list of all places' worths behind a walk, from a list of them."""
    check_table(table)
    ties = table
    worths = list(parts)
    for place in walk:
        ties, worths = worth_step(ties, worths, place)
    return worths


def side_total(numbers, column):
    """The sum of all numbers whose tie is above 0, each as often as it says."""
    return sum([number * max(0, tie) for number, tie in zip(numbers, column)])


def leaned(table, walk, numbers, *, greatest=False):
    """The list of all places' numbers behind a walk on the least (greatest) way."""
    check_table(table)
    ties = table
    left = list(numbers)
    for place in walk:
        check_bud(ties, place)
        column = [row[place] for row in ties]
        ties = turned_table(ties, place)
        one = side_total(left, column)
        other = side_total(left, [-tie for tie in column])
        left[place] = (max(one, other) if greatest else min(one, other)) - left[place]
    return left


def frieze(table, rounds):
    """A list of the buds' worths at first and behind each round of exchanges at all buds by rising places."""
    check_table(table)
    many = bud_count(table)
    ties = table
    worths = [(1, 1)] * len(table)
    lines = [[1] * many]
    for number in range(rounds):
        for place in range(many):
            ties, worths = worth_step(ties, worths, place)
        lines.append([top for top, under in worths[:many]])
    return lines


def belt_round(rows):
    """The list of all buds, those that are up first; Mixed where one is neither up nor down."""
    up = [bud for bud, row in enumerate(rows) if min(row) >= 0]
    others = [bud for bud, row in enumerate(rows) if min(row) < 0]
    if any([max(rows[bud]) > 0 for bud in others]):
        raise Mixed()
    return up + others


def belt(table, *, most=20):
    """Behind how many rounds all leans are first again as they began, or None beyond so many."""
    check_table(table)
    rows = table[:bud_count(table)]
    places = belt_round(rows)
    begun = first_seed(rows)
    seed = begun
    for number in range(most):
        for place in places:
            seed = turned_seed(seed, place)
        if seed[2] == begun[2]:
            return number + 1
    return None


def ring_length(table, one, other):
    """Behind how many exchanges by turns at two buds the same buds are back, None for never."""
    check_table(table)
    check_bud(table, one)
    check_bud(table, other)
    if one == other:
        raise BadOrder()
    return RING_LENGTHS.get(table[one][other] * table[other][one])
