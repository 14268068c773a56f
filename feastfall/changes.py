"""Changes: what a book holds, and what each order makes of it."""

from feastfall.days import date, total
from feastfall.errors import BadDay, BadFeast, BadYear, NoFeast, NoYear, Sealed, Taken
from feastfall.laying import lay
from feastfall.pages import days_of
from feastfall.ranks import ordered

LONGEST_YEAR = 400
GREATEST_NUMBER = 999999
LOWEST_RANK = 9
LAST_YEAR = 99
DAYS = {"fixed": (0, 399), "anchor": (-400, 400)}
OPENING = 9


class Chart:
    """What a book holds.

    years is a list of lengths and anchors; feasts leads from a number to rank, way, rule, day, since and until;
    figures has for each day of the years its bound, or 9 where it is open, as a text, which is small enough to be
    kept for each stand of a log; seals are the sealed years, rising. No chart is ever changed, a deed makes another
    one: so books and logs may share them.
    """

    def __init__(self, years, feasts, figures, seals):
        self.years = years
        self.feasts = feasts
        self.figures = figures
        self.seals = seals


def new_chart():
    """The chart of a new book."""
    return Chart([], {}, "", [])


def with_feasts(chart, feasts):
    """The chart with other feasts."""
    return Chart(chart.years, feasts, chart.figures, chart.seals)


def with_seals(chart, seals):
    """The chart with other sealed years."""
    return Chart(chart.years, chart.feasts, chart.figures, seals)


def lengths_of(chart):
    """The lengths of the years."""
    return [length for length, anchor in chart.years]


def shut_of(chart):
    """The shut days, a dict from each to its bound."""
    bounds = [int(figure) for figure in chart.figures]
    return {day: bound for day, bound in enumerate(bounds) if bound != OPENING}


def own_day(rule, day, first, length, anchor):
    """The own day by this rule in a year that begins with this first day of the line, or None."""
    if rule == "fixed":
        return first + day if day < length else None
    own = first + anchor + day
    return own if own >= 0 else None


def entries_of(chart):
    """The entries of all feasts, from the highest down."""
    entries = []
    first = 0
    for year, (length, anchor) in enumerate(chart.years):
        for number, feast in chart.feasts.items():
            rank, way, rule, day, since, until = feast
            own = own_day(rule, day, first, length, anchor)
            if since <= year <= until and own is not None:
                entries.append((rank, number, year, way, own))
        first += length
    return ordered(entries)


def laying_of(chart):
    """The laying of all entries."""
    return lay(entries_of(chart), shut_of(chart))


def check_anchor(length, anchor):
    """Refuses an anchor that is no day of a year of this length."""
    if not 0 <= anchor < length:
        raise BadYear(f"{anchor} is no day of a year of {length} days")


def check_year(chart, year):
    """Refuses a year that there is not."""
    if not 0 <= year < len(chart.years):
        raise NoYear(f"there is no year {year}")


def check_entered(chart, number):
    """Refuses a number that is not entered."""
    if number not in chart.feasts:
        raise NoFeast(f"there is no feast {number}")


def check_rank(rank):
    """Refuses a rank that is none."""
    if not 1 <= rank <= LOWEST_RANK:
        raise BadFeast(f"there is no rank {rank}")


def add_year(chart, order):
    """One more year behind the last one."""
    word, length, anchor = order
    if not 1 <= length <= LONGEST_YEAR:
        raise BadYear(f"no year has {length} days")
    check_anchor(length, anchor)
    years = chart.years + [(length, anchor)]
    return Chart(years, chart.feasts, chart.figures + str(OPENING) * length, chart.seals)


def enter(chart, order):
    """One more feast."""
    word, number, rank, way, rule, day, since, until = order
    check_rank(rank)
    if not 0 <= number <= GREATEST_NUMBER:
        raise BadFeast(f"no feast has the number {number}")
    least, most = DAYS[rule]
    if not least <= day <= most:
        raise BadFeast(f"the rule {rule} has no day {day}")
    if not 0 <= since <= until <= LAST_YEAR:
        raise BadFeast(f"no feast is kept from {since} to {until}")
    if number in chart.feasts:
        raise Taken(f"the feast {number} is entered already")
    feasts = dict(chart.feasts)
    feasts[number] = (rank, way, rule, day, since, until)
    return with_feasts(chart, feasts)


def strike(chart, order):
    """One feast less."""
    word, number = order
    check_entered(chart, number)
    feasts = dict(chart.feasts)
    del feasts[number]
    return with_feasts(chart, feasts)


def give_rank(chart, order):
    """Another rank for a feast."""
    word, number, rank = order
    check_entered(chart, number)
    check_rank(rank)
    feasts = dict(chart.feasts)
    feasts[number] = (rank,) + feasts[number][1:]
    return with_feasts(chart, feasts)


def shut_days(chart, order):
    """Another bound for days side by side."""
    word, first, last, bound = order
    if not 0 <= first <= last < total(lengths_of(chart)):
        raise BadDay(f"the book has no days from {first} to {last}")
    if not 0 <= bound <= OPENING:
        raise BadDay(f"there is no bound {bound}")
    figures = chart.figures[:first] + str(bound) * (last + 1 - first) + chart.figures[last + 1:]
    return Chart(chart.years, chart.feasts, figures, chart.seals)


def move_anchor(chart, order):
    """Another anchor for a year."""
    word, year, day = order
    check_year(chart, year)
    length = chart.years[year][0]
    check_anchor(length, day)
    years = chart.years[:year] + [(length, day)] + chart.years[year + 1:]
    return Chart(years, chart.feasts, chart.figures, chart.seals)


def seal(chart, order):
    """One more sealed year."""
    word, year = order
    check_year(chart, year)
    return with_seals(chart, sorted(set(chart.seals + [year])))


def unseal(chart, order):
    """One sealed year less."""
    word, year = order
    check_year(chart, year)
    return with_seals(chart, [kept for kept in chart.seals if kept != year])


CHANGES = {
    "year": add_year, "enter": enter, "strike": strike, "rank": give_rank, "shut": shut_days, "anchor": move_anchor,
    "seal": seal, "unseal": unseal,
}


def changed(chart, order):
    """The chart that an order leads to. All refusals but Sealed, which hangs on the turns, are made here."""
    change = CHANGES[order[0]]
    return change(chart, order)


def check_seals(chart, turns):
    """Refuses turns that turn a page of a sealed year."""
    lengths = lengths_of(chart)
    for turn in turns:
        days = [day for day in days_of(turn) if date(lengths, day)[0] in chart.seals]
        if days:
            raise Sealed(turn[0], turn[1], min(days))
