"""The book: years, feasts, shut days and sealed years, and the pages that come of them."""

from feastfall.changes import changed, check_seals, entries_of, laying_of, lengths_of, new_chart, shut_of
from feastfall.days import line
from feastfall.errors import NoFeast
from feastfall.pages import evening_of, page_of
from feastfall.reasons import reasons_of
from feastfall.turning import places, turned
from feastfall.words import read, shown


def stretches(shut):
    """The tuples (first, last, bound) of shut days side by side that have one bound, rising."""
    found = []
    for day in sorted(shut):
        if found and found[-1][1:] == (day - 1, shut[day]):
            found[-1] = (found[-1][0], day, shut[day])
        else:
            found.append((day, day, shut[day]))
    return found


def orders_of(chart):
    """The orders that lead from a new book to one with this chart."""
    orders = [("year", length, anchor) for length, anchor in chart.years]
    orders += [("enter", number) + chart.feasts[number] for number in sorted(chart.feasts)]
    orders += [("shut", first, last, bound) for first, last, bound in stretches(shut_of(chart))]
    orders += [("seal", year) for year in chart.seals]
    return orders


class Book:
    """A book; Book() is a new one."""

    def __init__(self):
        self.chart = new_chart()
        self.laid = []

    def deed(self, order):
        """Does what the order says and tells the turns."""
        chart = changed(self.chart, order)
        laid = laying_of(chart)
        turns = turned(self.laid, laid)
        check_seals(self.chart, turns)
        self.chart = chart
        self.laid = laid
        return turns

    def lengths(self):
        """The lengths of the years."""
        return lengths_of(self.chart)

    def sealed(self):
        """The sealed years, rising."""
        return list(self.chart.seals)

    def shut(self):
        """The shut days, a dict from each to its bound."""
        return shut_of(self.chart)

    def entries(self):
        """The entries of all feasts, from the highest down."""
        return entries_of(self.chart)

    def rows(self):
        """The laying of all entries."""
        return list(self.laid)

    def place(self, number, year):
        """The place of an entry."""
        place = places(self.laid).get((number, year))
        if place is None:
            raise NoFeast(f"there is no entry {number} of year {year}")
        return place

    def page(self, year, day):
        """The page (holder, noted) of a date."""
        return page_of(self.laid, line(self.lengths(), year, day))

    def evening(self, year, day):
        """Number and year of the one to whom the evening behind a date belongs, or None."""
        return evening_of(self.entries(), self.laid, line(self.lengths(), year, day))

    def why(self, number, year):
        """The reasons of an entry."""
        return reasons_of(self.entries(), self.shut(), number, year)

    def told(self):
        """The texts of the orders that make such a book."""
        return [shown(order) for order in orders_of(self.chart)]

    def twin(self):
        """Another book that is as this one now."""
        return book_with(self.chart, self.laid)


def book_with(chart, laid):
    """The book with this chart and its laying; both are shared and not copied, as nobody changes them."""
    book = Book()
    book.chart = chart
    book.laid = laid
    return book


def next_chart(chart, order):
    """The chart that a deed leads to; refused as the deed is."""
    after = changed(chart, order)
    # Where nothing is sealed no turns are refused, and a long list of orders need not be laid at every step.
    if chart.seals:
        check_seals(chart, turned(laying_of(chart), laying_of(after)))
    return after


def book_of(lines):
    """The book that a new one becomes by the orders of these texts."""
    chart = new_chart()
    for text in lines:
        chart = next_chart(chart, read(text))
    return book_with(chart, laying_of(chart))
