"""Which of two entries is the higher, and which days are open to a rank."""


def height(entry):
    """Rank, number and year of an entry: the lesser they are, the higher it is."""
    return entry[:3]


def ahead(one, other):
    """True where the first entry is higher than the second."""
    return height(one) < height(other)


def ordered(entries):
    """A new list of the entries, from the highest down."""
    return sorted(entries, key=height)


def open_to(rank, day, shut):
    """True where the day is open to that rank."""
    return day not in shut or rank <= shut[day]
