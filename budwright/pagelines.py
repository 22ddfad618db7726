"""How deeds are written, a line each."""

from budwright.deeds import WANTS
from budwright.figures import row_text, rows_text

NO_PLACES = "-"


def thing_text(want, thing):
    """What a deed's word wants, as it is written."""
    if want == "table":
        return rows_text(thing)
    if want == "places" and len(thing) == 0:
        return NO_PLACES
    if want == "places" or want == "order":
        return row_text(thing)
    return str(thing)


def deed_text(deed):
    """The line of a deed, without a line feed."""
    word, *things = deed
    return " ".join([word] + [thing_text(want, thing) for want, thing in zip(WANTS[word], things)])


def page_text(deeds):
    """The lines of these deeds, each with a line feed behind it."""
    return "".join([f"{deed_text(deed)}\n" for deed in deeds])
