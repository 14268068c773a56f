"""Turns: the entries whose places differ between two layings."""

from feastfall.errors import NoFeast, Taken
from feastfall.laying import lay


def places(rows):
    """A dict that leads from number and year of each row to its place."""
    return {(number, year): (how, day) for number, year, how, day in rows}


def turns_among(names, befores, afters):
    """The turns, in this order, of those of the named entries whose places differ."""
    old = places(befores)
    new = places(afters)
    turns = []
    for number, year in names:
        before = old.get((number, year))
        after = new.get((number, year))
        if before != after:
            turns.append((number, year, before, after))
    return turns


def names_of(rows):
    """Number and year of each row."""
    return [(number, year) for number, year, how, day in rows]


def has_entry(entries, number, year):
    """True where an entry has this number together with this year."""
    return (number, year) in [entry[1:3] for entry in entries]


def put_in(entries, shut, entry):
    """The laying of the entries with one more, and the turns that lead to it, from the highest down."""
    if has_entry(entries, entry[1], entry[2]):
        raise Taken(f"there is an entry {entry[1]} of year {entry[2]} already")
    befores = lay(entries, shut)
    afters = lay(entries + [entry], shut)
    return (afters, turns_among(names_of(afters), befores, afters))


def take_out(entries, shut, number, year):
    """The laying of the entries without that one, and the turns that lead to it, from the highest down."""
    if not has_entry(entries, number, year):
        raise NoFeast(f"there is no entry {number} of year {year}")
    befores = lay(entries, shut)
    afters = lay([entry for entry in entries if entry[1:3] != (number, year)], shut)
    return (afters, turns_among(names_of(befores), befores, afters))


def turned(befores, afters):
    """The turns between two layings, by rising number, then by rising year."""
    names = sorted(set(names_of(befores)) | set(names_of(afters)))
    return turns_among(names, befores, afters)
