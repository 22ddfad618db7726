"""Gardens: webs by names, deeds that can be taken back, and asks whose answers are told as news."""

from budwright.deeds import check_room, settled, web_named, webs_behind
from budwright.errors import NoAsk, NothingLeft
from budwright.pagelines import page_text
from budwright.questions import answer_told, check_question

MOST_WEBS = 8
MOST_ASKS = 6


class Garden:
    """Webs by names; the deeds that stand, and those taken back, are kept with the webs beside them."""

    def __init__(self, *, limit=MOST_WEBS):
        self.limit = limit
        self.webs = {}
        # Pairs (deed, webs ahead of it) of what stands, and (deed, webs behind it) of what was taken back.
        self.standing_deeds = []
        self.undone_deeds = []
        self.asked = {}
        self.told = {}

    def sow(self, name, table):
        """A new web of a table."""
        self.do(("sow", name, table))

    def grow(self, name, place):
        """An exchange in a web."""
        self.do(("grow", name, place))

    def walk(self, name, places):
        """Exchanges in a web at all of these places, or at none of them."""
        self.do(("walk", name, places))

    def hold(self, name, place):
        """Keeps a bud of a web from being exchanged."""
        self.do(("hold", name, place))

    def release(self, name, place):
        """Lets a held bud of a web be exchanged again."""
        self.do(("release", name, place))

    def reorder(self, name, order):
        """Puts a web's buds in another order."""
        self.do(("reorder", name, order))

    def graft(self, name, one, other):
        """A new web of the tables of two, as they are, side by side."""
        self.do(("graft", name, one, other))

    def uproot(self, name):
        """Takes a web away."""
        self.do(("uproot", name))

    def do(self, deed):
        """Does any deed."""
        after = webs_behind(self.webs, self.limit, deed)
        self.standing_deeds.append((settled(deed), self.webs))
        self.undone_deeds = []
        self.webs = after

    def undo(self):
        """Takes the last deed that stands back, and tells it."""
        if len(self.standing_deeds) == 0:
            raise NothingLeft()
        deed, before = self.standing_deeds.pop()
        self.undone_deeds.append((deed, self.webs))
        self.webs = before
        return deed

    def redo(self):
        """Does the deed again that was taken back last, and tells it."""
        if len(self.undone_deeds) == 0:
            raise NothingLeft()
        deed, after = self.undone_deeds.pop()
        self.standing_deeds.append((deed, self.webs))
        self.webs = after
        return deed

    def done(self):
        """The list of the deeds that stand."""
        return [deed for deed, before in self.standing_deeds]

    def ask(self, name, question):
        """Keeps a question whose answers are told as news."""
        check_room(self.asked, MOST_ASKS, name)
        check_question(question)
        self.asked[name] = settled(question)

    def unask(self, name):
        """Takes an ask away, and with it what was told of it."""
        if not isinstance(name, str) or name not in self.asked:
            raise NoAsk(name)
        del self.asked[name]
        self.told.pop(name, None)

    def asks(self):
        """The list of pairs (name, question), rising."""
        return [(name, self.asked[name]) for name in sorted(self.asked)]

    def news(self):
        """The list of pairs (name, answer), rising, of answers that are other ones than those told last."""
        fresh = []
        for name, question in self.asks():
            answer = answer_told(self.webs, question)
            if name not in self.told or self.told[name] != answer:
                self.told[name] = answer
                fresh.append((name, answer))
        return fresh

    def web(self, name):
        """A Web of its own that has all of the one of this name."""
        return web_named(self.webs, name).twin()

    def names(self):
        """The list of the webs' names, rising."""
        return sorted(self.webs)

    def twin(self):
        """A garden that has all of this one and goes its own way."""
        second = Garden(limit=self.limit)
        second.webs = self.webs
        second.standing_deeds = list(self.standing_deeds)
        second.undone_deeds = list(self.undone_deeds)
        second.asked = dict(self.asked)
        second.told = dict(self.told)
        return second

    def __len__(self):
        return len(self.webs)

    def __eq__(self, other):
        return isinstance(other, Garden) and self.webs == other.webs

    def __str__(self):
        return str(page_text(self.done()))

    def __repr__(self):
        return f"Garden({len(self.webs)} webs)"
