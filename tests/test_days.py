"""Point 2: the line of days and its dates; point 25 for these functions."""

import unittest

from feastfall.days import date, line, total
from feastfall.errors import NoDay

SHAPES = {
    "no year at all": [],
    "one year of one day": [1],
    "one year of 400 days": [400],
    "years of one day": [1, 1, 1, 1, 1],
    "years of 400 days": [400, 400, 400],
    "differing lengths": [5, 1, 400, 2, 365, 366, 1],
    "the short one first": [1, 400],
    "the short one last": [400, 1],
    "twelve years of one day": [1] * 12,
    "twelve years of 400 days": [400] * 12,
    "twelve years of differing lengths": [365, 1, 400, 366, 2, 399, 10, 1, 1, 354, 384, 7],
}
FAR = (10 ** 3, 10 ** 6, 10 ** 11, 10 ** 11 + 1, 10 ** 12, 3 * 10 ** 12 + 7, 10 ** 20)


def all_dates(lengths):
    """The dates of the years themselves, in the order of the line: found by counting, not by sums."""
    return [(year, day) for year, length in enumerate(lengths) for day in range(length)]


def for_each_shape(test):
    """The test is run once for each of the shapes, on a list of its own."""
    def run(self):
        for name, lengths in SHAPES.items():
            with self.subTest(shape=name):
                test(self, list(lengths))
    return run


class Total(unittest.TestCase):
    @for_each_shape
    def test_it_counts_the_days_of_all_years(self, lengths):
        self.assertEqual(total(lengths), len(all_dates(lengths)))

    def test_some_by_hand(self):
        self.assertEqual(total([]), 0)
        self.assertEqual(total([1]), 1)
        self.assertEqual(total([5, 1, 400]), 406)
        self.assertEqual(total([400] * 12), 4800)


class ThereAndBack(unittest.TestCase):
    @for_each_shape
    def test_every_day_of_the_years(self, lengths):
        for at, (year, day) in enumerate(all_dates(lengths)):
            self.assertEqual(line(lengths, year, day), at)
            self.assertEqual(date(lengths, at), (year, day))

    @for_each_shape
    def test_the_first_and_the_last_day_of_each_year(self, lengths):
        first = 0
        for year, length in enumerate(lengths):
            last = first + length - 1
            self.assertEqual(line(lengths, year, 0), first)
            self.assertEqual(line(lengths, year, length - 1), last)
            self.assertEqual(date(lengths, first), (year, 0))
            self.assertEqual(date(lengths, last), (year, length - 1))
            first = last + 1

    @for_each_shape
    def test_the_days_behind_the_last_year(self, lengths):
        behind = len(all_dates(lengths))
        for day in tuple(range(6)) + (399, 400, 401) + FAR:
            self.assertEqual(line(lengths, len(lengths), day), behind + day)
            self.assertEqual(date(lengths, behind + day), (len(lengths), day))

    @for_each_shape
    def test_far_days_of_the_line(self, lengths):
        for at in FAR:
            if at >= sum(lengths):
                self.assertEqual(date(lengths, at), (len(lengths), at - sum(lengths)))
                self.assertEqual(line(lengths, len(lengths), at - sum(lengths)), at)

    def test_without_a_year_the_line_is_the_days_behind(self):
        for day in (0, 1, 400, 10 ** 11):
            self.assertEqual(line([], 0, day), day)
            self.assertEqual(date([], day), (0, day))

    def test_some_by_hand(self):
        lengths = [5, 1, 400]
        self.assertEqual(line(lengths, 0, 4), 4)
        self.assertEqual(line(lengths, 1, 0), 5)
        self.assertEqual(line(lengths, 2, 0), 6)
        self.assertEqual(line(lengths, 2, 399), 405)
        self.assertEqual(line(lengths, 3, 0), 406)
        self.assertEqual(date(lengths, 4), (0, 4))
        self.assertEqual(date(lengths, 5), (1, 0))
        self.assertEqual(date(lengths, 6), (2, 0))
        self.assertEqual(date(lengths, 405), (2, 399))
        self.assertEqual(date(lengths, 406), (3, 0))

    @for_each_shape
    def test_the_kinds_of_what_is_told(self, lengths):
        self.assertIs(type(total(lengths)), int)
        self.assertIs(type(line(lengths, len(lengths), 0)), int)
        told = date(lengths, 0)
        self.assertIs(type(told), tuple)
        self.assertEqual([type(part) for part in told], [int, int])


class NoSuchDay(unittest.TestCase):
    def refused(self, lengths, year, day):
        with self.assertRaises(NoDay, msg=f"year {year} day {day}"):
            line(lengths, year, day)

    @for_each_shape
    def test_a_year_below_0(self, lengths):
        for year in (-1, -2, -len(lengths), -len(lengths) - 1, -10 ** 12):
            for day in (0, 1):
                if year < 0:
                    self.refused(lengths, year, day)

    @for_each_shape
    def test_a_year_above_the_count_of_years(self, lengths):
        for beyond in (1, 2, 12, 10 ** 12):
            for day in (0, 1, 10 ** 11):
                self.refused(lengths, len(lengths) + beyond, day)

    @for_each_shape
    def test_a_day_below_0(self, lengths):
        for year in range(len(lengths) + 1):
            for day in (-1, -2, -400, -10 ** 12):
                self.refused(lengths, year, day)

    @for_each_shape
    def test_a_day_that_its_year_is_too_short_for(self, lengths):
        for year, length in enumerate(lengths):
            for beyond in (0, 1, 400, 10 ** 12):
                self.refused(lengths, year, length + beyond)

    @for_each_shape
    def test_the_edges_beside_the_refused_ones_are_answered(self, lengths):
        for year, length in enumerate(lengths):
            self.assertEqual(line(lengths, year, length - 1), sum(lengths[:year + 1]) - 1)
            self.refused(lengths, year, length)
        self.assertEqual(line(lengths, len(lengths), 0), sum(lengths))
        self.refused(lengths, len(lengths) + 1, 0)

    @for_each_shape
    def test_a_day_of_the_line_below_0(self, lengths):
        for day in (-1, -2, -400, -10 ** 12):
            with self.assertRaises(NoDay, msg=f"day {day}"):
                date(lengths, day)
        self.assertEqual(date(lengths, 0), (0, 0))


class NothingIsChanged(unittest.TestCase):
    @for_each_shape
    def test_the_list_of_lengths_stays(self, lengths):
        kept = list(lengths)
        total(lengths)
        for year in range(-1, len(lengths) + 2):
            for day in (-1, 0, 1, 399, 400, 10 ** 12):
                self.ask(line, lengths, year, day)
        for day in (-1, 0, 1, 399, 400, 10 ** 12):
            self.ask(date, lengths, day)
        self.assertEqual(lengths, kept)

    def ask(self, function, *parts):
        try:
            function(*parts)
        except NoDay:
            pass

    def test_a_later_change_of_the_lengths_has_no_effect_on_what_was_told(self):
        lengths = [3, 4]
        told = date(lengths, 5)
        lengths[0] = 400
        lengths.append(1)
        self.assertEqual(told, (1, 2))
        self.assertEqual(date([3, 4], 5), (1, 2))
        self.assertEqual(total([3, 4]), 7)


if __name__ == "__main__":
    unittest.main()
