"""Every refusal of the program, each with its word and its fields."""


class BudError(ValueError):
    """Any refusal but those that stand under other errors of Python at the end of this file."""

    def __init__(self, word):
        ValueError.__init__(self, word)
        self.word = word


class BadSum(BudError):
    def __init__(self):
        BudError.__init__(self, "bad sum")


class BadTable(BudError):
    def __init__(self):
        BudError.__init__(self, "bad table")


class Uneven(BudError):
    """The ring is a pair or a ring of buds that bars the table from being even."""

    def __init__(self, ring):
        BudError.__init__(self, "uneven")
        self.ring = ring


class Great(BudError):
    def __init__(self):
        BudError.__init__(self, "great")


class Held(BudError):
    def __init__(self, place):
        BudError.__init__(self, "held")
        self.place = place


class NotHeld(BudError):
    def __init__(self, place):
        BudError.__init__(self, "not held")
        self.place = place


class BadOrder(BudError):
    def __init__(self):
        BudError.__init__(self, "bad order")


class BadCut(BudError):
    def __init__(self):
        BudError.__init__(self, "bad cut")


class Mixed(BudError):
    def __init__(self):
        BudError.__init__(self, "mixed")


class Endless(BudError):
    """The steps lead to a table in which the buds one and other show that it doesn't end."""

    def __init__(self, steps, one, other):
        BudError.__init__(self, "endless")
        self.steps = steps
        self.one = one
        self.other = other


class BadName(BudError):
    def __init__(self):
        BudError.__init__(self, "bad name")


class Taken(BudError):
    def __init__(self, name):
        BudError.__init__(self, "taken")
        self.name = name


class Full(BudError):
    """The field most is how many there is room for."""

    def __init__(self, most):
        BudError.__init__(self, "full")
        self.most = most


class BadAsk(BudError):
    def __init__(self):
        BudError.__init__(self, "bad ask")


class BadDeed(BudError):
    def __init__(self):
        BudError.__init__(self, "bad deed")


class BadText(BudError):
    """The field at is the number of the line that can't be read."""

    def __init__(self, at):
        BudError.__init__(self, "bad text")
        self.at = at


class NoPart(ZeroDivisionError):
    def __init__(self):
        ZeroDivisionError.__init__(self, "no part")
        self.word = "no part"


class NoPlace(IndexError):
    def __init__(self, place):
        IndexError.__init__(self, "no place")
        self.word = "no place"
        self.place = place


class Lacking(LookupError):
    """Something that is asked for by a name that nothing has; only the classes below are made."""

    def __init__(self, word, name):
        LookupError.__init__(self, word)
        self.word = word
        self.name = name


class NoWeb(Lacking):
    def __init__(self, name):
        Lacking.__init__(self, "no web", name)


class NoAsk(Lacking):
    def __init__(self, name):
        Lacking.__init__(self, "no ask", name)


class NothingLeft(RuntimeError):
    def __init__(self):
        RuntimeError.__init__(self, "nothing left")
        self.word = "nothing left"
