"""Webs: what stands in places, and how exchanges put other buds there."""

from budwright.errors import Full, Great, Held, NoPlace, NotHeld
from budwright.figures import is_number, rows_text
from budwright.products import gathered, multiplied_within, quotient
from budwright.seeds import first_seed, turned_seed
from budwright.sums import WIDE, Sum, letter
from budwright.tables import check_bud, check_table, reordered, weights

MOST_TERMS = 100
MOST_WALK = 60


def first_sums(many):
    """A letter of its own for each place."""
    return tuple([letter(many, number) for number in range(many)])


def side_products(sums, column):
    """The products of all sums whose tie is above 0, each as often as the tie says, multiplied out."""
    found = [((0,) * len(sums), 1)]
    for one, tie in zip(sums, column):
        for step in range(tie):
            found = multiplied_within(found, one.terms(), WIDE)
            if found is None:
                raise Great()
    return found


def new_bud(ties, sums, place):
    """The bud that, times the one in this place, is the sum of both sides."""
    column = [row[place] for row in ties]
    both = gathered(side_products(sums, column) + side_products(sums, [-tie for tie in column]))
    if len(both) > WIDE:
        raise Great()
    # The old bud always goes into both sides: nothing is found only where there would be too many products.
    found = quotient(both, sums[place].terms(), MOST_TERMS)
    if found is None:
        raise Great()
    return Sum(len(sums), found)


def exchanged(ties, sums, place):
    """The sums of all places behind an exchange at a bud."""
    return sums[:place] + (new_bud(ties, sums, place),) + sums[place + 1:]


def order_between(sums, others):
    """The order in which the sums stand as the others do, which are as many and all unlike, or None."""
    order = []
    for other in others:
        spots = [at for at, one in enumerate(sums) if one == other]
        if len(spots) == 0:
            return None
        order.append(spots[0])
    return tuple(order)


class Web:
    """Buds and roots with ties between them; exchanges put other buds in their places."""

    def __init__(self, table):
        check_table(table)
        self.seed = first_seed(table)
        self.standing = first_sums(len(table))
        self.made = ()
        self.kept = ()

    def exchange(self, place):
        """Puts another bud in this place."""
        self.walk((place,))

    def walk(self, places):
        """Exchanges at all of these places, or at none of them."""
        seed = self.seed
        sums = self.standing
        made = self.made
        for place in places:
            self.check_exchange(place, len(made))
            after = turned_seed(seed, place)
            sums = exchanged(seed[0], sums, place)
            seed = after
            made = made + (place,)
        self.seed = seed
        self.standing = sums
        self.made = made

    def check_exchange(self, place, many):
        """Refuses an exchange behind so many, but for what is too great."""
        check_bud(self.seed[0], place)
        if place in self.kept:
            raise Held(place)
        if many >= MOST_WALK:
            raise Full(MOST_WALK)

    def table(self):
        return self.seed[0]

    def weights(self):
        return weights(self.seed[0])

    def places(self):
        """How many places there are."""
        return len(self.standing)

    def bud(self, place):
        """The sum that stands in a place, be it a bud's or a root's."""
        if not is_number(place) or not 0 <= place < len(self.standing):
            raise NoPlace(place)
        return self.standing[place]

    def buds(self):
        """A list of the buds' sums."""
        return list(self.standing[:len(self)])

    def hues(self):
        return list(self.seed[1])

    def leans(self):
        return list(self.seed[2])

    def done(self):
        """The list of places exchanged so far."""
        return list(self.made)

    def hold(self, place):
        """Keeps a bud from being exchanged."""
        check_bud(self.seed[0], place)
        if place in self.kept:
            raise Held(place)
        self.kept = tuple(sorted(self.kept + (place,)))

    def release(self, place):
        """Lets a held bud be exchanged again."""
        check_bud(self.seed[0], place)
        if place not in self.kept:
            raise NotHeld(place)
        self.kept = tuple([other for other in self.kept if other != place])

    def held(self):
        """A list of the held buds' places, rising."""
        return list(self.kept)

    def reorder(self, order):
        """Puts the bud of place order[p] in place p, for each p; roots stay."""
        ties, hues, leans = self.seed
        rows = reordered(ties, order)
        self.seed = (rows, tuple([hues[bud] for bud in order]), tuple([leans[bud] for bud in order]))
        self.standing = tuple([self.standing[bud] for bud in order]) + self.standing[len(order):]
        self.kept = tuple([at for at, bud in enumerate(order) if bud in self.kept])

    def alike(self, other):
        """The order by which this web, reordered, would have the other's sums and table, or None."""
        if len(self) != len(other):
            return None
        order = order_between(self.buds(), other.buds())
        if order is None or reordered(self.table(), order) != other.table():
            return None
        return order

    def twin(self):
        """A web that has all of this one and goes its own way."""
        second = Web(self.seed[0])
        second.seed = self.seed
        second.standing = self.standing
        second.made = self.made
        second.kept = self.kept
        return second

    def __len__(self):
        return len(self.seed[0][0])

    def __eq__(self, other):
        return (isinstance(other, Web) and self.seed[0] == other.seed[0] and self.standing == other.standing
                and self.kept == other.kept)

    def __str__(self):
        return str(rows_text(self.seed[0]))

    def __repr__(self):
        return f"Web({len(self)} buds, {len(self.standing) - len(self)} roots)"
