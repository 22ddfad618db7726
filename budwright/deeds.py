"""Deeds: their words and what these want, and what each does to a dict of webs by names.

No such dict is ever changed, nor is a web in it: each deed makes another dict, so that all that was ahead stays.
"""

from budwright.errors import BadDeed, BadName, Full, NoWeb, Taken
from budwright.tables import beside
from budwright.webs import Web

NAME_SIGNS = "abcdefghijklmnopqrstuvwxyz"
MOST_SIGNS = 8
# What stands behind each word, in order.
WANTS = {
    "sow": ("name", "table"), "grow": ("name", "place"), "walk": ("name", "places"), "hold": ("name", "place"),
    "release": ("name", "place"), "reorder": ("name", "order"), "graft": ("name", "name", "name"), "uproot": ("name",),
}


def is_name(name):
    """Whether it is a text of 1 to 8 letters a to z."""
    if not isinstance(name, str) or not 1 <= len(name) <= MOST_SIGNS:
        return False
    return all([sign in NAME_SIGNS for sign in name])


def check_room(named, most, name):
    """Refuses a name for one thing more in a dict by names that has room for so many."""
    if not is_name(name):
        raise BadName()
    if name in named:
        raise Taken(name)
    if len(named) >= most:
        raise Full(most)


def check_deed(deed):
    """Refuses what has no word of a deed, or another count of things than the word wants."""
    if not isinstance(deed, tuple) or len(deed) == 0 or not isinstance(deed[0], str):
        raise BadDeed()
    if deed[0] not in WANTS or len(deed) != 1 + len(WANTS[deed[0]]):
        raise BadDeed()


def settled(things):
    """The things as a tuple, lists among them as tuples, so that a later change of these changes nothing."""
    return tuple([tuple(thing) if isinstance(thing, list) else thing for thing in things])


def web_named(webs, name):
    """The web of this name."""
    if not isinstance(name, str) or name not in webs:
        raise NoWeb(name)
    return webs[name]


def sown(webs, limit, deed):
    word, name, table = deed
    check_room(webs, limit, name)
    return {**webs, name: Web(table)}


def grown(webs, limit, deed):
    word, name, place = deed
    web = web_named(webs, name).twin()
    web.exchange(place)
    return {**webs, name: web}


def walked_on(webs, limit, deed):
    word, name, places = deed
    web = web_named(webs, name).twin()
    web.walk(places)
    return {**webs, name: web}


def with_held(webs, limit, deed):
    word, name, place = deed
    web = web_named(webs, name).twin()
    web.hold(place)
    return {**webs, name: web}


def with_released(webs, limit, deed):
    word, name, place = deed
    web = web_named(webs, name).twin()
    web.release(place)
    return {**webs, name: web}


def with_reordered(webs, limit, deed):
    word, name, order = deed
    web = web_named(webs, name).twin()
    web.reorder(order)
    return {**webs, name: web}


def grafted(webs, limit, deed):
    word, name, one, other = deed
    check_room(webs, limit, name)
    table = web_named(webs, one).table()
    more = web_named(webs, other).table()
    return {**webs, name: Web(beside(table, more))}


def uprooted(webs, limit, deed):
    word, name = deed
    web_named(webs, name)
    return {other: webs[other] for other in webs if other != name}


ACTIONS = {
    "sow": sown, "grow": grown, "walk": walked_on, "hold": with_held, "release": with_released,
    "reorder": with_reordered, "graft": grafted, "uproot": uprooted,
}


def webs_behind(webs, limit, deed):
    """The dict of webs that a deed makes of another one that has room for so many."""
    check_deed(deed)
    action = ACTIONS[deed[0]]
    return action(webs, limit, deed)
