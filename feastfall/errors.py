"""The refusals: one class for each kind, all of them under FeastError."""


class FeastError(ValueError):
    """Any refusal."""


class NoDay(FeastError):
    """A date or a day of the line is asked that there is not."""


class NoYear(FeastError):
    """The book has no such year."""


class BadYear(FeastError):
    """A length is out of its bounds, or an anchor is no day of its year."""


class BadDay(FeastError):
    """Days that are to be shut are not in the book's years, or their bound is none."""


class BadFeast(FeastError):
    """A part of a feast is out of its bounds."""


class Taken(FeastError):
    """The number, or the entry, is there already."""


class NoFeast(FeastError):
    """The number is not entered, or there is no such entry."""


class NoOrder(FeastError):
    """A text is no order."""


class NoBack(FeastError):
    """There is no deed to take back."""


class NoForth(FeastError):
    """There is no deed to do again."""


class NoStand(FeastError):
    """The log has no such stand."""


class Sealed(FeastError):
    """A deed would turn a sealed page; the fields name the turn and the day."""

    def __init__(self, number, year, day):
        self.number = number
        self.year = year
        self.day = day
