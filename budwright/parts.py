"""Powers of whole numbers, and parts: pairs (top, under) in lowest terms, under above nought."""


def common(one, other):
    """The greatest number that goes into both, of which one at least isn't nought."""
    one = abs(one)
    other = abs(other)
    while other != 0:
        one, other = other, one % other
    return one


def power_of(base, many):
    """The base multiplied so many times, 1 for no times."""
    result = 1
    while many > 0:
        if many % 2 == 1:
            result *= base
        many //= 2
        if many > 0:
            base *= base
    return result


def lowest_terms(top, under, root):
    """The part of top by under (not nought), where each prime that goes into under goes into root, too.

    The root is there for speed: where under is made of high powers, it is far smaller, and one step
    brings huge numbers down to its size.
    """
    if top == 0:
        return (0, 1)
    shared = common(common(root, top), under)
    while shared != 1:
        top //= shared
        under //= shared
        shared = common(common(root, top), under)
    if under < 0:
        return (-top, -under)
    return (top, under)
