"""Rows of products: pairs (powers, count), as sums hold them, falling by their powers."""

from budwright.parts import lowest_terms, power_of


def added_powers(one, other):
    return tuple([a + b for a, b in zip(one, other)])


def lessened_powers(one, other):
    return tuple([a - b for a, b in zip(one, other)])


def gathered(terms):
    """A tuple of products falling by their powers, those of like powers added, without counts of 0."""
    counts = {}
    for powers, count in terms:
        key = tuple(powers)
        counts[key] = counts.get(key, 0) + count
    return tuple([(powers, counts[powers]) for powers in sorted(counts, reverse=True) if counts[powers] != 0])


def lowest_powers(products):
    """Each letter's least power in products, of which there is one at least."""
    rows = [powers for powers, count in products]
    return tuple([min(column) for column in zip(*rows)])


def highest_powers(products):
    """Each letter's greatest power in products, of which there is one at least."""
    rows = [powers for powers, count in products]
    return tuple([max(column) for column in zip(*rows)])


def multiplied(one, other):
    """The products of each of one with each of other, not gathered yet."""
    return [(added_powers(powers, more), count * many) for powers, count in one for more, many in other]


def multiplied_within(one, other, most):
    """The products of each of one with each of other, gathered, or None where they are more than most.

    All counts are above 0, so what has come never goes again: it is known early that there are too many.
    """
    counts = {}
    for powers, count in one:
        for more, many in other:
            key = added_powers(powers, more)
            counts[key] = counts.get(key, 0) + count * many
        if len(counts) > most:
            return None
    return list(counts.items())


def taken_off(left, products, powers, count):
    """Takes the products, each times one more product, off from a dict of counts by powers."""
    for more, many in products:
        key = added_powers(more, powers)
        rest = left.get(key, 0) - many * count
        if rest == 0:
            del left[key]
        else:
            left[key] = rest


def quotient(one, other, most):
    """The products that times other come to one, or None where there are none or more than most.

    Both have one product at least. The first product of a sum times another one's first is always the
    first of what comes, for powers fall letter by letter: so what is left tells the next product.
    """
    # A letter's least powers add where sums are multiplied, and so do its greatest: nothing lies beyond.
    low = lessened_powers(lowest_powers(one), lowest_powers(other))
    high = lessened_powers(highest_powers(one), highest_powers(other))
    first, divisor = other[0]
    left = {powers: count for powers, count in one}
    found = []
    while left:
        top = max(left)
        powers = lessened_powers(top, first)
        inside = all([a <= b <= c for a, b, c in zip(low, powers, high)])
        if not inside or len(found) == most or left[top] % divisor != 0:
            return None
        count = left[top] // divisor
        found.append((powers, count))
        taken_off(left, other, powers, count)
    return found


def weighed(products, numbers):
    """For each product the sum of its powers times the numbers, as a list."""
    return [sum([a * b for a, b in zip(powers, numbers)]) for powers, count in products]


def worth_at(products, parts):
    """The worth, as a part, of products (one at least) where each letter is worth its part.

    A letter worth nought has no power below 0.
    """
    low = [min(0, power) for power in lowest_powers(products)]
    high = [max(0, power) for power in highest_powers(products)]
    total = 0
    for powers, count in products:
        for power, least, most, (top, under) in zip(powers, low, high, parts):
            count *= power_of(top, power - least) * power_of(under, most - power)
        total += count
    bottom = 1
    root = 1
    for least, most, (top, under) in zip(low, high, parts):
        bottom *= power_of(top, -least) * power_of(under, most)
        root *= (top if least < 0 else 1) * under
    return lowest_terms(total, bottom, root)
