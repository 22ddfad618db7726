"""What several tests want of gardens: all that one tells, some deeds, and refusals with their fields."""

from budwright.garden import Garden
from budwright.webs import Web
from samples import LETTERED, ONE, RING, TALL, TWO

FIELDS = ("ring", "place", "steps", "one", "other", "name", "most", "at")
# Three buds and two roots.
LONG = RING + ((1, 0, 2), (0, -3, 1))
NAMES = ("oak", "elm", "ash", "yew", "fir", "bay", "fig", "box", "a", "zzzzzzzz")
BAD_NAMES = ("", "Oak", "oaks and", "abcdefghi", "oak1", "o-k", " oak", "oak ", "o_k", "oak\n", "{}", "OAK", "`", "{",
             7, None, True, ("oak",), ["oak"], 0)


def web_state(web):
    """All that a web tells."""
    return (web.table(), web.weights(), web.buds(), [web.bud(place) for place in range(web.places())], web.hues(),
            web.leans(), web.done(), web.held())


def garden_state(garden):
    """All that a garden tells, but for news."""
    return (garden.names(), [web_state(garden.web(name)) for name in garden.names()], garden.done(), garden.asks(),
            len(garden), repr(garden), str(garden))


def whole_state(garden):
    """All that a garden tells, what can be taken back, done again and what news are there, too."""
    twin = garden.twin()
    told = [garden_state(twin), twin.news()]
    back = 0
    while twin.done():
        told.append((twin.undo(), garden_state(twin)[:3]))
        back += 1
    for _ in range(back):
        twin.redo()
    while True:
        try:
            told.append((twin.redo(), garden_state(twin)[:3]))
        except RuntimeError:
            return told


def refusal(deed, *things):
    """The refusal of a call as a pair of its class's name and its fields, or None where it is granted."""
    try:
        deed(*things)
    except Exception as error:
        return type(error).__name__, {field: getattr(error, field) for field in FIELDS if hasattr(error, field)}
    return None


def by_method(garden, deed):
    """Does a deed by the garden's method for it."""
    getattr(garden, deed[0])(*deed[1:])


def some_deed(source, names=NAMES):
    """A deed that may be granted or refused."""
    word = source.choice(("sow", "sow", "grow", "grow", "grow", "walk", "walk", "hold", "release", "reorder", "graft",
                          "uproot"))
    name = source.choice(names)
    place = source.choice((0, 0, 0, 1, 1, 2, 3, -1, 4))
    if word == "sow":
        table = source.choice((ONE, TWO, TWO, RING, TALL, LONG, ((0, 1), (1, 0)), ((0, 1),), LETTERED["D4"][0]))
        return word, name, table
    if word in ("grow", "hold", "release"):
        return word, name, place
    if word == "walk":
        return word, name, tuple(source.choice((0, 0, 1, 1, 2)) for _ in range(source.choice((0, 1, 2, 3, 5))))
    if word == "reorder":
        many = source.choice((1, 2, 2, 3, 4))
        return word, name, tuple(source.sample(range(many), many))
    if word == "graft":
        return word, name, source.choice(names), source.choice(names)
    return word, name


def some_garden(source, deeds=30, names=NAMES):
    """A garden behind some deeds, some of them taken back or done again."""
    garden = Garden()
    for _ in range(deeds):
        step = source.random()
        if step < 0.15:
            refusal(garden.undo)
        elif step < 0.22:
            refusal(garden.redo)
        else:
            refusal(garden.do, some_deed(source, names))
    return garden


class SlowGarden:
    """A garden that keeps deeds alone, and makes all webs anew whenever it is asked."""

    def __init__(self, limit=8):
        self.limit, self.deeds, self.undone = limit, [], []

    def webs(self, deeds):
        found = {}
        for word, name, *things in deeds:
            if word == "sow":
                found[name] = Web(things[0])
            elif word == "uproot":
                del found[name]
            elif word == "graft":
                found[name] = Web(side_by_side(found[things[0]].table(), found[things[1]].table()))
            else:
                getattr(found[name], "exchange" if word == "grow" else word)(*things)
        return found

    def do(self, deed):
        """Whether the deed is granted; then it is done."""
        now = self.webs(self.deeds)
        granted = self.grants(now, deed)
        if granted:
            self.deeds, self.undone = self.deeds + [deed], []
        return granted

    def grants(self, now, deed):
        word, name, *things = deed
        if word in ("sow", "graft") and (name in now or len(now) >= self.limit):
            return False
        if word == "graft" and not set(things) <= set(now):
            return False
        if word not in ("sow", "graft") and name not in now:
            return False
        try:
            self.webs(self.deeds + [deed])
        except (ValueError, LookupError):
            return False
        return True

    def state(self):
        webs = self.webs(self.deeds)
        return sorted(webs), [web_state(webs[name]) for name in sorted(webs)], list(self.deeds)


def side_by_side(one, other):
    """Both tables, row by row."""
    left, right = len(one[0]), len(other[0])
    if left + right > 4 or len(one) - left + len(other) - right > 4:
        raise ValueError
    ones, others = [row + (0,) * right for row in one], [(0,) * left + row for row in other]
    return tuple(ones[:left] + others[:right] + ones[left:] + others[right:])
