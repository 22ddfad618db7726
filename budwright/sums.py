"""Sums of products of letters, with whole counts and powers of either sign."""

from budwright.errors import BadSum, BadText, Great, NoPart
from budwright.products import gathered, lowest_powers, multiplied, quotient, weighed, worth_at
from budwright.sumtexts import read_products, sum_pieces

WIDE = 400


class Sum:
    """A sum of products of letters; it never changes."""

    def __init__(self, width, terms=()):
        if any([len(powers) != width for powers, count in terms]):
            raise BadSum()
        products = gathered(terms)
        if len(products) > WIDE:
            raise Great()
        self.width = width
        self.products = products

    def terms(self):
        """A list of pairs (powers, count), falling by their powers."""
        return list(self.products)

    def plus(self, other):
        check_width(self.width, other.width)
        return Sum(self.width, self.products + other.products)

    def minus(self, other):
        check_width(self.width, other.width)
        return Sum(self.width, self.products + tuple([(powers, -count) for powers, count in other.products]))

    def times(self, other):
        check_width(self.width, other.width)
        return Sum(self.width, multiplied(self.products, other.products))

    def raised(self, many):
        """This sum multiplied so many times."""
        # One by one, for a power on the way may have too many products where a later one hasn't.
        result = constant(self.width, 1)
        for step in range(many):
            result = result.times(self)
        return result

    def shared(self, other):
        """The sum that times the other one comes to this one, or None."""
        check_width(self.width, other.width)
        if len(other.products) == 0:
            raise NoPart()
        if len(self.products) == 0:
            return Sum(self.width)
        found = quotient(self.products, other.products, WIDE)
        return None if found is None else Sum(self.width, found)

    def worth(self, parts):
        """The worth, as a part, where each letter is worth its part."""
        check_width(self.width, len(parts))
        if len(self.products) == 0:
            return (0, 1)
        if any([power < 0 and top == 0 for power, (top, under) in zip(lowest_powers(self.products), parts)]):
            raise NoPart()
        return worth_at(self.products, parts)

    def least(self, numbers):
        """The least sum, over the products, of powers times numbers."""
        check_width(self.width, len(numbers))
        return min(weighed(self.products, numbers), default=None)

    def greatest(self, numbers):
        """The greatest sum, over the products, of powers times numbers."""
        check_width(self.width, len(numbers))
        return max(weighed(self.products, numbers), default=None)

    def lowest(self):
        """A tuple of each letter's least power, None of nought."""
        return None if len(self.products) == 0 else lowest_powers(self.products)

    def with_ones(self, places):
        """This sum with the letters of these numbers set to 1."""
        kept = [0 if at in places else 1 for at in range(self.width)]
        rows = [tuple([power * keep for power, keep in zip(powers, kept)]) for powers, count in self.products]
        return Sum(self.width, [(row, count) for row, (powers, count) in zip(rows, self.products)])

    def widened(self, width):
        """This sum with more letters behind its own."""
        more = (0,) * (width - self.width)
        return Sum(width, [(powers + more, count) for powers, count in self.products])

    def __len__(self):
        return len(self.products)

    def __eq__(self, other):
        return isinstance(other, Sum) and self.width == other.width and self.products == other.products

    def __str__(self):
        return "".join(sum_pieces(self.products))

    def __repr__(self):
        return f"Sum({self.width} letters, {len(self.products)} products)"


def check_width(width, other):
    if width != other:
        raise BadSum()


def letter(width, number, *, by=1):
    """The sum that is one letter, to a power."""
    powers = tuple([by if at == number else 0 for at in range(width)])
    return Sum(width, [(powers, 1)])


def constant(width, many):
    """The sum that is a number."""
    return Sum(width, [((0,) * width, many)])


def read_sum(text, *, width):
    """The sum that is written just so."""
    terms = [] if text == "0" else read_products(text, width, WIDE)
    if terms is None:
        raise BadText(0)
    read = Sum(width, terms)
    # Another order, or a needless sign, count, power or nought, doesn't come back in writing.
    if str(read) != text:
        raise BadText(0)
    return read
