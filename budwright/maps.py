"""Maps of all webs that exchanges bring from a table of a finite kind."""

from budwright.errors import Endless, NoPlace
from budwright.figures import is_number
from budwright.kinds import kind
from budwright.seeds import first_seed, fresh_lean, turned_seed
from budwright.tables import bud_count


def is_number_below(number, many):
    return is_number(number) and 0 <= number < many


def fallen_seed(seed):
    """The seed with its buds in the order of falling leans."""
    ties, hues, leans = seed
    order = sorted(range(len(leans)), key=lambda bud: leans[bud], reverse=True)
    rows = tuple([tuple([ties[bud][other] for other in order]) for bud in order])
    return (rows, tuple([hues[bud] for bud in order]), tuple([leans[bud] for bud in order]))


def draw_exchange(seeds, numbers, ends, at, place):
    """Puts down where an exchange in the row of a number leads to, and the way back, and a new row where there is none.

    The numbers are those of rows by their leans: leans tell a web, so hues and ties are turned for new rows alone.
    """
    ties, hues, leans = seeds[at]
    fresh = fresh_lean(ties, hues, leans, place)
    behind = tuple(sorted(leans[:place] + (fresh,) + leans[place + 1:], reverse=True))
    if behind not in numbers:
        numbers[behind] = len(seeds)
        seeds.append(fallen_seed(turned_seed(seeds[at], place)))
        ends.append([None] * len(leans))
    ends[at][place] = numbers[behind]
    # Two exchanges at one place bring back what was.
    ends[numbers[behind]][behind.index(fresh)] = at


def drawn_rows(table):
    """The tuple of all rows of the map of a table of a finite kind."""
    many = bud_count(table)
    seeds = [first_seed(table[:many])]
    numbers = {seeds[0][2]: 0}
    ends = [[None] * many]
    at = 0
    while at < len(seeds):
        for place in range(many):
            if ends[at][place] is None:
                draw_exchange(seeds, numbers, ends, at, place)
        at += 1
    return tuple([(leans, hues, ties, tuple(led)) for (ties, hues, leans), led in zip(seeds, ends)])


def distances(rows, number):
    """A dict from each row's number to how many exchanges lie between it and the row of this number."""
    found = {number: 0}
    waiting = [number]
    at = 0
    while at < len(waiting):
        now = waiting[at]
        for end in rows[now][3]:
            if end not in found:
                found[end] = found[now] + 1
                waiting.append(end)
        at += 1
    return found


class WebMap:
    """The map of a table of a finite kind; it never changes."""

    def __init__(self, table):
        told = kind(table)
        if told[0] == "endless":
            raise Endless(told[1], told[2], told[3])
        self.drawn = drawn_rows(table)

    def rows(self):
        """The list of rows (leans, hues, ties, ends)."""
        return list(self.drawn)

    def buds(self):
        """A list of the leans of all buds, falling."""
        found = {lean: True for row in self.drawn for lean in row[0]}
        return sorted(found, reverse=True)

    def number_of(self, leans):
        """The number of the row with these leans, in any order, or None."""
        wanted = tuple(sorted(leans, reverse=True))
        for number, row in enumerate(self.drawn):
            if row[0] == wanted:
                return number
        return None

    def check_row(self, number):
        if not is_number_below(number, len(self.drawn)):
            raise NoPlace(number)

    def way(self, one, other):
        """The first of the shortest lists of places that lead from row to row."""
        self.check_row(one)
        self.check_row(other)
        # An exchange can be made back from where it leads: so it is as far from the one as from the other.
        far = distances(self.drawn, other)
        places = []
        at = one
        while at != other:
            ends = self.drawn[at][3]
            nearer = [place for place, end in enumerate(ends) if far[end] < far[at]]
            places.append(nearer[0])
            at = ends[nearer[0]]
        return places

    def walk_to(self, number):
        """A list of places for a Web of this table that leads to a row."""
        self.check_row(number)
        at = 0
        seed = first_seed(self.drawn[0][2])
        places = []
        for place in self.way(0, number):
            leans, hues, ties, ends = self.drawn[at]
            # In a Web buds stay in their places, in rows of a map they stand by falling leans.
            spot = seed[2].index(leans[place])
            places.append(spot)
            seed = turned_seed(seed, spot)
            at = ends[place]
        return places

    def __len__(self):
        return len(self.drawn)

    def __repr__(self):
        return f"WebMap({len(self.drawn)} webs)"


def map_holds(table, rows):
    """Whether the rows are the map of the table but for their order behind the first one."""
    told = kind(table)
    if told[0] == "endless" or len(rows) != told[3]:
        return False
    # Where each drawn row stands among the rows is told by those that lead to it, of which one comes ahead of it.
    spots = {0: 0}
    for number, (leans, hues, ties, ends) in enumerate(drawn_rows(table)):
        row = rows[spots[number]]
        if len(row) != 4 or not all([is_number_below(led, len(rows)) for led in row[3]]):
            return False
        for end, led in zip(ends, row[3]):
            spots.setdefault(end, led)
        if row != (leans, hues, ties, tuple([spots.get(end) for end in ends])):
            return False
    return True
