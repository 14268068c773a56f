"""Looking through: the first fault of rows that are said to be a laying."""

from feastfall.laying import first_free
from feastfall.ranks import open_to, ordered

HOWS = {"moves": ("stands",), "stays": ("stands", "noted"), "lapses": ("stands", "out")}


def fault_of(entry, how, day, shut, onward):
    """What is wrong with the place that an entry is said to have: a word and a day, or None."""
    rank, number, year, way, own = entry
    if how not in HOWS[way]:
        return ("how", day)
    if day < own or way != "moves" and day != own:
        return ("day", day)
    if how == "stands" and not open_to(rank, day, shut):
        return ("shut", day)
    # A day that is open to this rank is open to all higher ones: it leads onward only where one of them stands.
    if how == "stands" and day in onward:
        return ("taken", day)
    free = first_free(rank, own, shut, onward)
    if free < day or how != "stands" and free == day:
        return ("passed", free)
    return None


def fault(entries, shut, rows):
    """None where the rows are the laying of the entries, else the first fault (word, number, year, day)."""
    onward = {}
    for at, entry in enumerate(ordered(entries)):
        number, year = entry[1:3]
        if at >= len(rows):
            return ("missing", number, year, -1)
        row_number, row_year, how, day = rows[at]
        if (row_number, row_year) != (number, year):
            return ("other", number, year, -1)
        found = fault_of(entry, how, day, shut, onward)
        if found is not None:
            return (found[0], number, year, found[1])
        if how == "stands":
            onward[day] = day + 1
    if len(rows) > len(entries):
        number, year, how, day = rows[len(entries)]
        return ("more", number, year, day)
    return None
