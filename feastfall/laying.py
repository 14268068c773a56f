"""Laying: the entries come to their days from the highest one down."""

from feastfall.ranks import open_to, ordered


def first_free(rank, day, shut, onward):
    """The first day, from this one on, that is open to the rank and that nobody stands on.

    onward leads from days that this rank cannot have, all those on which somebody stands among them, to the
    next one that is worth trying.
    """
    passed = []
    while day in onward or not open_to(rank, day, shut):
        passed.append(day)
        day = onward.get(day, day + 1)
    # Those who come later are lower: what this rank cannot have, they cannot have either and need not try.
    for gone in passed:
        onward[gone] = day
    return day


def place_of(entry, shut, onward):
    """The place of an entry that comes behind all higher ones; a day on which it stands is put into onward."""
    rank, number, year, way, own = entry
    day = first_free(rank, own, shut, onward)
    if way == "moves" or day == own:
        onward[day] = day + 1
        return ("stands", day)
    if way == "stays":
        return ("noted", own)
    return ("out", own)


def lay(entries, shut):
    """The laying: a list of the rows (number, year, how, day) of all entries, from the highest down."""
    onward = {}
    rows = []
    for entry in ordered(entries):
        how, day = place_of(entry, shut, onward)
        rows.append((entry[1], entry[2], how, day))
    return rows
