"""Pages: who stands on a day, who is noted there, and what else the rows of a laying tell."""


def holders(rows):
    """A dict that leads from each day on which somebody stands to number and year of that entry."""
    return {day: (number, year) for number, year, how, day in rows if how == "stands"}


def own_days(entries):
    """A dict that leads from number and year of each entry to its own day."""
    return {(number, year): own for rank, number, year, way, own in entries}


def page_of(rows, day):
    """The page (holder, noted) of a day of the line."""
    noted = [(number, year) for number, year, how, own in rows if how == "noted" and own == day]
    return (holders(rows).get(day), sorted(noted))


def evening_of(entries, rows, day):
    """Number and year of the one to whom the evening behind a day belongs, or None."""
    ranks = {(number, year): rank for rank, number, year, way, own in entries}
    standing = holders(rows)
    this = standing.get(day)
    that = standing.get(day + 1)
    if this is None:
        return that
    if that is None or ranks[this] < ranks[that]:
        return this
    return that


def held(rows):
    """The days on which somebody stands, rising."""
    return sorted(holders(rows))


def waited(entries, rows):
    """By how many days all entries that stand are behind their own days, added up."""
    own = own_days(entries)
    return sum([day - own[(number, year)] for number, year, how, day in rows if how == "stands"])


def days_of(turn):
    """The days on which the one that turns stands or is noted, ahead or behind."""
    number, year, before, after = turn
    return [place[1] for place in (before, after) if place is not None and place[0] != "out"]


def stretch(turns):
    """The least and the greatest day of the turns on which somebody stands or is noted, or None."""
    days = [day for turn in turns for day in days_of(turn)]
    if not days:
        return None
    return (min(days), max(days))


def runs(entries, rows):
    """The pairs (first, last) of the days that are reached without a gap, rising."""
    own = own_days(entries)
    reaches = sorted([(own[(number, year)], day) for number, year, how, day in rows])
    joined = []
    for first, last in reaches:
        # Two that only lie side by side share no day: nobody reaches from the one into the other.
        if joined and first <= joined[-1][1]:
            joined[-1] = (joined[-1][0], max(joined[-1][1], last))
        else:
            joined.append((first, last))
    return joined
