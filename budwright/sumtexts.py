"""How sums are written, and how such texts are read."""

from budwright.figures import leading_figures, read_number, whole_text

# Sums have letters a to h; the rest stands ready for wider ones, which are not refused.
LETTERS = "abcdefghijklmnopqrstuvwxyz"
COUNT_FIGURES = 30
POWER_FIGURES = 4


def letters_text(powers):
    pieces = []
    for letter, power in zip(LETTERS, powers):
        if power == 1:
            pieces.append(letter)
        elif power != 0:
            pieces.append(f"{letter}^{power}")
    return "".join(pieces)


def product_text(powers, count):
    """A product without its sign."""
    letters = letters_text(powers)
    if letters != "" and abs(count) == 1:
        return letters
    return whole_text(abs(count)) + letters


def sum_pieces(products):
    """The pieces that, put together, are the text of a sum of these products."""
    if len(products) == 0:
        return ["0"]
    pieces = []
    for powers, count in products:
        if len(pieces) > 0:
            pieces.append(" - " if count < 0 else " + ")
        elif count < 0:
            pieces.append("-")
        pieces.append(product_text(powers, count))
    return pieces


def power_end(text, at):
    """Where the power ends that may stand in the text at a place."""
    if not text.startswith("^", at):
        return at
    begin = at + 2 if text.startswith("-", at + 1) else at + 1
    return begin + len(leading_figures(text, begin))


def read_letters(text, width):
    """The powers of letters that are written one behind the other, or None where they can't be read."""
    powers = [0] * width
    at = 0
    while at < len(text):
        number = LETTERS.find(text[at])
        end = power_end(text, at + 1)
        power = 1 if end == at + 1 else read_number(text[at + 2:end], POWER_FIGURES)
        if not 0 <= number < width or power is None:
            return None
        powers[number] = power
        at = end
    return tuple(powers)


def read_product(text, width):
    """A pair (powers, count) of a product without its sign, or None where it can't be read."""
    figures = leading_figures(text, 0)
    powers = read_letters(text[len(figures):], width)
    if powers is None or len(figures) > COUNT_FIGURES:
        return None
    return (powers, 1 if figures == "" else int(figures))


def signed_pieces(text, most):
    """Pairs (sign, product's text) of at most so many products with signs between, or None."""
    first = -1 if text.startswith("-") else 1
    pieces = (text[1:] if first == -1 else text).split(" ")
    if len(pieces) % 2 == 0 or len(pieces) >= 2 * most:
        return None
    signed = [(first, pieces[0])]
    for sign, piece in zip(pieces[1::2], pieces[2::2]):
        if sign != "+" and sign != "-":
            return None
        signed.append((-1 if sign == "-" else 1, piece))
    return signed


def read_products(text, width, most):
    """Pairs (powers, count) of at most so many products, or None where the text can't be read.

    What is read here may be written otherwise than a sum is: only writing it again tells.
    """
    signed = signed_pieces(text, most)
    if signed is None:
        return None
    read = []
    for sign, piece in signed:
        product = read_product(piece, width)
        if product is None:
            return None
        powers, count = product
        read.append((powers, sign * count))
    return read
