"""The log: the deeds done to a book that was new, back and forth."""

from feastfall.book import Book, book_with
from feastfall.changes import laying_of
from feastfall.errors import NoBack, NoForth, NoStand
from feastfall.turning import turned


class Log:
    """A log; charts has one for each stand, those that were taken back among them."""

    def __init__(self):
        self.now = Book()
        self.charts = [self.now.chart]
        self.at = 0

    def deed(self, order):
        """Does what the order says, drops what was taken back, and tells the turns."""
        turns = self.now.deed(order)
        self.at += 1
        self.charts[self.at:] = [self.now.chart]
        return turns

    def back(self):
        """Takes the last deed back and tells the turns."""
        if self.at == 0:
            raise NoBack("there is no deed to take back")
        return self.go(self.at - 1)

    def forth(self):
        """Does again the deed that was taken back last and tells the turns."""
        if self.at + 1 == len(self.charts):
            raise NoForth("there is no deed to do again")
        return self.go(self.at + 1)

    def go(self, at):
        """Goes to another stand and tells the turns; seals are not asked."""
        before = self.now.rows()
        after = laying_of(self.charts[at])
        self.now = book_with(self.charts[at], after)
        self.at = at
        return turned(before, after)

    def stand(self):
        """The number of the stand that it has now."""
        return self.at

    def between(self, one, other):
        """The turns from the one stand to the other."""
        for at in (one, other):
            if not 0 <= at <= self.at:
                raise NoStand(f"there is no stand {at}")
        return turned(laying_of(self.charts[one]), laying_of(self.charts[other]))

    def book(self):
        """A book as it is now, which goes its own way."""
        return self.now.twin()
