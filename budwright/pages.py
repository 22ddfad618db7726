"""Pages: the deeds that stand in a garden, a line each, written and read."""

from budwright.deeds import WANTS, is_name
from budwright.errors import BadText, BudError, NoPlace, NoWeb
from budwright.figures import MOST_FIGURES, read_number, read_row, read_rows
from budwright.garden import Garden
from budwright.pagelines import NO_PLACES, page_text


def read_thing(want, text):
    """What a deed's word wants, as it is written so, or None."""
    if want == "name":
        return text if is_name(text) else None
    if want == "place":
        return read_number(text, MOST_FIGURES)
    if want == "table":
        return read_rows(text)
    if want == "places" and text == NO_PLACES:
        return ()
    return read_row(text)


def read_deed(text):
    """The deed that is written just so, whether a garden grants it or not."""
    word, *pieces = text.split(" ")
    if word not in WANTS or len(pieces) != len(WANTS[word]):
        raise BadText(0)
    things = [read_thing(want, piece) for want, piece in zip(WANTS[word], pieces)]
    if any([thing is None for thing in things]):
        raise BadText(0)
    return (word, *things)


def page(garden):
    """The page of a garden: a line for each deed that stands."""
    return page_text(garden.done())


def read_page(text):
    """A garden on which all deeds of a page were done."""
    garden = Garden()
    # Behind the last line feed nothing stands: what does is a line that lacks its own.
    *lines, rest = text.split("\n")
    for at, line in enumerate(lines):
        try:
            garden.do(read_deed(line))
        except (BudError, NoPlace, NoWeb):
            raise BadText(at)
    if rest != "":
        raise BadText(len(lines))
    return garden
