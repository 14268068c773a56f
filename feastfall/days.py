"""The days of all years in one line, and the dates by which they are spoken of."""

from feastfall.errors import NoDay


def total(lengths):
    """How many days all years have."""
    return sum(lengths)


def has_date(lengths, year, day):
    """True where there is such a date."""
    if year < 0 or year > len(lengths) or day < 0:
        return False
    # The year behind the last one has no length: none of its days is too late.
    return year == len(lengths) or day < lengths[year]


def line(lengths, year, day):
    """The day of the line of a date."""
    if not has_date(lengths, year, day):
        raise NoDay(f"there is no day {day} of year {year}")
    return total(lengths[:year]) + day


def date(lengths, day):
    """The date (year, day) of a day of the line."""
    if day < 0:
        raise NoDay(f"there is no day {day} of the line")
    left = day
    for year, length in enumerate(lengths):
        if left < length:
            return (year, left)
        left -= length
    return (len(lengths), left)
