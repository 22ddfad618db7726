"""Whole numbers, and how they and rows of them are written and read."""

FIGURES = "0123456789"
MOST_FIGURES = 6
CHUNK_FIGURES = 64
CHUNK = 10 ** 64


def is_number(thing):
    """Whether it is a whole number; True and False are none."""
    return isinstance(thing, int) and not isinstance(thing, bool)


def whole_text(number):
    """The figures of a number from 0 on, in chunks: Python's own way refuses numbers of thousands of figures."""
    pieces = []
    while number >= CHUNK:
        number, low = divmod(number, CHUNK)
        pieces.append(str(low).zfill(CHUNK_FIGURES))
    pieces.append(str(number))
    return "".join(reversed(pieces))


def leading_figures(text, at):
    """The figures that stand in the text from a place on, up to the first other sign."""
    end = at
    while end < len(text) and text[end] in FIGURES:
        end += 1
    return text[at:end]


def read_number(text, most):
    """The number that is written just so with at most so many figures, or None."""
    figures = text[1:] if text.startswith("-") else text
    if leading_figures(figures, 0) != figures or not 1 <= len(figures) <= most:
        return None
    number = int(text)
    # A needless nought or sign doesn't come back in writing.
    return number if str(number) == text else None


def row_text(numbers):
    """Numbers as they are written in a row of a table, a walk or an order."""
    return ",".join([str(number) for number in numbers])


def read_row(text):
    """The tuple of one number or more that is written so, or None."""
    numbers = [read_number(piece, MOST_FIGURES) for piece in text.split(",")]
    if any([number is None for number in numbers]):
        return None
    return tuple(numbers)


def rows_text(rows):
    """Rows of numbers as a table is written."""
    return ";".join([row_text(row) for row in rows])


def read_rows(text):
    """The tuple of rows that is written so, be it a table or not, or None."""
    rows = [read_row(piece) for piece in text.split(";")]
    if any([row is None for row in rows]):
        return None
    return tuple(rows)
