"""Reasons: what kept an entry from each of the days that it passed over."""

from feastfall.errors import NoFeast
from feastfall.laying import lay
from feastfall.pages import holders
from feastfall.ranks import open_to
from feastfall.turning import places


def entry_of(entries, number, year):
    """The entry that has this number together with this year."""
    for entry in entries:
        if entry[1:3] == (number, year):
            return entry
    raise NoFeast(f"there is no entry {number} of year {year}")


def passed_over(own, how, day):
    """The days that an entry with this own day and this place passed over, rising."""
    if how == "stands":
        return list(range(own, day))
    return [own]


def reason(rank, day, shut, standing):
    """What kept an entry of this rank from a day that it passed over."""
    if not open_to(rank, day, shut):
        return (day, "shut", shut[day])
    number, year = standing[day]
    return (day, "held", number, year)


def reasons_of(entries, shut, number, year):
    """The reasons of an entry, one for each day that it passed over, in rising order."""
    rank, number, year, way, own = entry_of(entries, number, year)
    rows = lay(entries, shut)
    how, day = places(rows)[(number, year)]
    standing = holders(rows)
    return [reason(rank, passed, shut, standing) for passed in passed_over(own, how, day)]
