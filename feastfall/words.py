"""Words: orders as texts, and the texts of places, rows, turns and reasons."""

from feastfall.errors import NoOrder

WAYS = ("moves", "stays", "lapses")
RULES = ("fixed", "anchor")
MOST_FIGURES = 12
ORDERS = {
    "year": ("number", "number"),
    "enter": ("number", "number", "way", "rule", "number", "number", "number"),
    "strike": ("number",),
    "rank": ("number", "number"),
    "shut": ("number", "number", "number"),
    "anchor": ("number", "number"),
    "seal": ("number",),
    "unseal": ("number",),
}


def is_number(text):
    """True where the text is a number as orders have them."""
    figures = text.removeprefix("-")
    if not figures.isdigit() or len(figures) > MOST_FIGURES:
        return False
    return text == "0" or not figures.startswith("0")


def fits(text, sort):
    """True where the text is what belongs there: a number, a way or a rule."""
    if sort == "way":
        return text in WAYS
    if sort == "rule":
        return text in RULES
    return is_number(text)


def read_parts(texts, sorts):
    """A tuple of the parts that are so written, each of its sort."""
    if len(texts) != len(sorts):
        raise NoOrder(f"{len(texts)} parts where there should be {len(sorts)}")
    parts = []
    for text, sort in zip(texts, sorts):
        if not fits(text, sort):
            raise NoOrder(f"{text!r} is no {sort}")
        parts.append(int(text) if sort == "number" else text)
    return tuple(parts)


def read(text):
    """The order that is so written."""
    word, *texts = text.split(" ")
    if word not in ORDERS:
        raise NoOrder(f"{word!r} is no order")
    return (word,) + read_parts(texts, ORDERS[word])


def shown_parts(parts):
    """The parts with one blank between."""
    return " ".join([str(part) for part in parts])


def shown(order):
    """The text of an order."""
    return shown_parts(order)


def shown_place(place):
    """The text of a place, or of None."""
    return "none" if place is None else shown_parts(place)


def shown_row(row):
    """The text of a row."""
    return shown_parts(row)


def shown_turn(turn):
    """The text of a turn."""
    number, year, before, after = turn
    return f"{number} {year} {shown_place(before)} to {shown_place(after)}"


def shown_reason(reason):
    """The text of a reason."""
    return shown_parts(reason)
