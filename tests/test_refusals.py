"""Points 18 and 19: what a book refuses, in which order, and that it stays as it was."""

import itertools
import unittest

from feastfall.errors import BadDay, BadFeast, BadYear, FeastError, NoDay, NoFeast, NoYear, Sealed, Taken
from tests.test_book import RULES, WAYS, book_by, whole

FAR = 999999999999


class Refusals(unittest.TestCase):
    """A book of years of 10, 1 and 400 days, with the feasts 0, 12 and 999999."""

    def setUp(self):
        self.book = book_by(("year", 10, 4), ("year", 1, 0), ("year", 400, 399),
                            ("enter", 12, 3, "moves", "fixed", 4, 0, 9), ("enter", 0, 5, "stays", "anchor", 0, 0, 9),
                            ("enter", 999999, 7, "lapses", "fixed", 4, 0, 0), ("shut", 5, 11, 3))
        self.ahead = whole(self.book)

    def refused(self, order, kind):
        with self.subTest(order=order), self.assertRaises(FeastError) as caught:
            self.book.deed(order)
        self.assertIs(type(caught.exception), kind, order)
        self.assertEqual(whole(self.book), self.ahead, order)

    def done(self, order):
        """It is not refused by a twin of the book."""
        with self.subTest(order=order):
            self.assertIsInstance(self.book.twin().deed(order), list)

    def test_the_length_of_a_year(self):
        for length in (1, 2, 399, 400):
            self.done(("year", length, 0))
        for length in (0, -1, 401, 402, -400, FAR, -FAR):
            for anchor in (0, -1, 5, FAR):
                self.refused(("year", length, anchor), BadYear)

    def test_the_anchor_of_a_year(self):
        for length in (1, 2, 10, 400):
            for anchor in (0, length // 2, length - 1):
                self.done(("year", length, anchor))
            for anchor in (-1, length, length + 1, 400, -400, FAR, -FAR):
                self.refused(("year", length, anchor), BadYear)

    def test_each_part_of_a_feast(self):
        good = ("enter", 5, 5, "moves", "fixed", 5, 5, 5)
        bounds = {1: (0, 999999), 2: (1, 9), 5: (0, 399), 6: (0, 5), 7: (5, 99)}
        for at, (least, most) in bounds.items():
            for number in (least, least + 1, most - 1, most):
                if number not in (0, 999999):
                    self.done(good[:at] + (number,) + good[at + 1:])
            for number in (least - 1, most + 1, -FAR, FAR, -5, 10 ** 6):
                self.refused(good[:at] + (number,) + good[at + 1:], BadFeast)

    def test_the_first_and_the_last_number(self):
        for number in (0, 999999):
            self.book.deed(("strike", number))
            self.done(("enter", number, 1, "moves", "fixed", 0, 0, 99))

    def test_the_day_by_each_rule(self):
        for way in WAYS:
            for rule, least, most in (("fixed", 0, 399), ("anchor", -400, 400)):
                for day in (least, least + 1, 0, most - 1, most):
                    self.done(("enter", 5, 5, way, rule, day, 0, 0))
                for day in (least - 1, most + 1, -FAR, FAR):
                    self.refused(("enter", 5, 5, way, rule, day, 0, 0), BadFeast)

    def test_since_and_until(self):
        for rule in RULES:
            for since, until in ((0, 0), (0, 99), (99, 99), (5, 6), (98, 99)):
                self.done(("enter", 5, 5, "moves", rule, 0, since, until))
            for since, until in ((1, 0), (99, 98), (99, 0), (-1, 0), (-1, 99), (0, 100), (100, 100), (-2, -1),
                                 (0, FAR), (-FAR, 0), (FAR, FAR), (-FAR, -FAR), (FAR, -FAR)):
                self.refused(("enter", 5, 5, "moves", rule, 0, since, until), BadFeast)

    def test_taken(self):
        for number in (0, 12, 999999):
            for rank, way, rule in itertools.product((1, 9), WAYS, RULES):
                self.refused(("enter", number, rank, way, rule, 3, 0, 99), Taken)
        self.refused(("enter", 12, 3, "moves", "fixed", 4, 0, 9), Taken)
        self.done(("enter", 13, 3, "moves", "fixed", 4, 0, 9))

    def test_bad_feast_goes_ahead_of_taken(self):
        good = ("enter", 12, 5, "moves", "fixed", 5, 5, 5)
        for at, number in ((2, 0), (2, 10), (5, -1), (5, 400), (6, -1), (6, 6), (7, 4), (7, 100)):
            self.refused(good[:at] + (number,) + good[at + 1:], BadFeast)

    def test_strike(self):
        for number in (0, 12, 999999):
            self.done(("strike", number))
        for number in (1, 11, 13, 999998, 1000000, -1, -12, FAR, -FAR):
            self.refused(("strike", number), NoFeast)

    def test_what_was_struck_is_not_there(self):
        self.book.deed(("strike", 12))
        self.ahead = whole(self.book)
        self.refused(("strike", 12), NoFeast)
        self.refused(("rank", 12, 3), NoFeast)
        self.done(("enter", 12, 3, "moves", "fixed", 4, 0, 9))

    def test_rank(self):
        for rank in range(1, 10):
            self.done(("rank", 12, rank))
        for rank in (0, 10, -1, -3, FAR, -FAR):
            self.refused(("rank", 12, rank), BadFeast)
            self.refused(("rank", 0, rank), BadFeast)

    def test_no_feast_goes_ahead_of_bad_feast(self):
        for number, rank in itertools.product((1, 13, -1, 1000000, FAR, -FAR), (0, 3, 10, -FAR, FAR)):
            self.refused(("rank", number, rank), NoFeast)

    def test_shut_days(self):
        for first, last in ((0, 0), (0, 410), (410, 410), (9, 10), (10, 10), (10, 11)):
            for bound in range(10):
                self.done(("shut", first, last, bound))
        for first, last in ((-1, 0), (-1, -1), (0, -1), (1, 0), (410, 409), (0, 411), (411, 411), (411, 410), (-2, 3),
                            (0, FAR), (FAR, FAR), (-FAR, FAR), (-FAR, 0), (FAR, -FAR), (500, 400)):
            for bound in (0, 3, 9, 10, -1):
                self.refused(("shut", first, last, bound), BadDay)
        for bound in (-1, 10, 11, FAR, -FAR):
            self.refused(("shut", 0, 0, bound), BadDay)

    def test_a_book_without_years(self):
        self.book = book_by(("enter", 12, 3, "moves", "fixed", 4, 0, 9))
        self.ahead = whole(self.book)
        for bound in range(10):
            self.refused(("shut", 0, 0, bound), BadDay)
        for word, year in itertools.product(("seal", "unseal"), (0, -1, 1)):
            self.refused((word, year), NoYear)
        self.refused(("anchor", 0, 0), NoYear)

    def test_anchor(self):
        for year, length in enumerate((10, 1, 400)):
            for day in (0, length - 1):
                self.done(("anchor", year, day))
            for day in (-1, length, length + 1, -FAR, FAR):
                self.refused(("anchor", year, day), BadYear)

    def test_no_year(self):
        for year in (-1, 3, 4, 12, -3, FAR, -FAR):
            self.refused(("seal", year), NoYear)
            self.refused(("unseal", year), NoYear)
            for day in (0, 5, -1, 400, FAR, -FAR):
                self.refused(("anchor", year, day), NoYear)
        for year in (0, 1, 2):
            self.done(("seal", year))
            self.done(("unseal", year))

    def test_no_deed_is_refused_with_no_day(self):
        orders = [("shut", first, last, 3) for first, last in itertools.product((-FAR, -1, 0, 410, 411, FAR), repeat=2)]
        orders += [("anchor", year, day) for year, day in itertools.product((-FAR, -1, 0, 2, 3, FAR), repeat=2)]
        for order in orders:
            try:
                self.book.twin().deed(order)
            except NoDay:
                self.fail(order)
            except FeastError:
                pass

    def test_more_years_and_feasts_than_the_bounds_are_not_refused(self):
        book = book_by(*[("year", 2, 0)] * 13)
        for number in range(61):
            self.assertEqual(len(book.deed(("enter", number, 5, "moves", "fixed", 1, 0, 99))), 13)


class SealedPages(unittest.TestCase):
    """Years of ten days each, the days 0 to 9, 10 to 19, 20 to 29; those behind from 30 on."""

    def setUp(self):
        self.book = book_by(*[("year", 10, 4)] * 3)

    def given(self, *orders):
        for order in orders:
            self.book.deed(order)

    def refused(self, order, number, year, day):
        ahead = whole(self.book)
        with self.subTest(order=order), self.assertRaises(Sealed) as caught:
            self.book.deed(order)
        refusal = caught.exception
        self.assertIs(type(refusal), Sealed)
        self.assertEqual((refusal.number, refusal.year, refusal.day), (number, year, day))
        self.assertEqual(whole(self.book), ahead)

    def test_each_deed_that_turns(self):
        self.given(("enter", 12, 3, "moves", "anchor", 0, 0, 1), ("enter", 7, 5, "moves", "fixed", 4, 0, 1),
                   ("enter", 30, 5, "moves", "anchor", -8, 3, 9), ("seal", 1), ("seal", 2))
        self.refused(("enter", 3, 1, "moves", "fixed", 0, 0, 1), 3, 1, 10)
        self.refused(("strike", 12), 7, 1, 14)
        self.refused(("strike", 7), 7, 1, 15)
        self.refused(("rank", 7, 2), 7, 1, 14)
        self.refused(("shut", 14, 14, 0), 7, 1, 15)
        self.refused(("anchor", 1, 0), 7, 1, 14)
        self.refused(("anchor", 1, 5), 7, 1, 14)
        self.refused(("year", 10, 7), 30, 3, 29)

    def test_deeds_that_turn_no_sealed_page_are_done(self):
        self.given(("enter", 12, 3, "moves", "anchor", 0, 0, 1), ("seal", 1))
        for order in (("anchor", 0, 0), ("shut", 13, 13, 0), ("shut", 15, 19, 0), ("shut", 14, 14, 3), ("rank", 12, 3),
                      ("rank", 12, 1), ("year", 5, 4), ("enter", 5, 1, "moves", "fixed", 4, 2, 9), ("strike", 5),
                      ("enter", 6, 9, "moves", "fixed", 0, 0, 0), ("shut", 20, 29, 0), ("seal", 1), ("seal", 0),
                      ("unseal", 0), ("unseal", 2)):
            self.assertIsInstance(self.book.deed(order), list)
        self.assertEqual(self.book.place(12, 1), ("stands", 14))

    def test_the_lesser_of_two_days(self):
        self.given(("enter", 12, 3, "moves", "anchor", 0, 1, 1), ("seal", 1))
        self.refused(("anchor", 1, 2), 12, 1, 12)
        self.refused(("anchor", 1, 8), 12, 1, 14)
        self.refused(("shut", 14, 14, 0), 12, 1, 14)

    def test_the_one_of_two_days_that_lies_in_a_sealed_year(self):
        self.given(("enter", 12, 3, "moves", "fixed", 9, 0, 0), ("seal", 1))
        self.refused(("shut", 9, 9, 0), 12, 0, 10)
        self.refused(("shut", 0, 9, 2), 12, 0, 10)
        self.given(("unseal", 1), ("seal", 0))
        self.refused(("shut", 9, 9, 0), 12, 0, 9)
        self.refused(("shut", 9, 19, 0), 12, 0, 9)
        self.given(("seal", 1))
        self.refused(("shut", 9, 9, 0), 12, 0, 9)
        self.refused(("shut", 9, 19, 0), 12, 0, 9)

    def test_a_before_or_an_after(self):
        self.given(("enter", 12, 3, "moves", "fixed", 9, 0, 0), ("shut", 9, 9, 0), ("seal", 1))
        self.assertEqual(self.book.place(12, 0), ("stands", 10))
        self.refused(("shut", 9, 9, 9), 12, 0, 10)
        self.refused(("strike", 12), 12, 0, 10)
        self.given(("unseal", 1), ("seal", 0))
        self.refused(("shut", 9, 9, 9), 12, 0, 9)
        self.assertEqual(self.book.deed(("strike", 12)), [(12, 0, ("stands", 10), None)])

    def test_the_noted(self):
        self.given(("enter", 12, 3, "stays", "fixed", 4, 1, 1), ("shut", 14, 14, 0), ("seal", 1))
        self.refused(("shut", 14, 14, 9), 12, 1, 14)
        self.refused(("strike", 12), 12, 1, 14)
        self.refused(("enter", 5, 1, "stays", "anchor", 0, 0, 1), 5, 1, 14)
        self.given(("unseal", 1), ("shut", 14, 14, 9), ("seal", 1))
        self.refused(("shut", 14, 14, 2), 12, 1, 14)

    def test_those_that_are_out_seal_nothing(self):
        self.given(("enter", 12, 3, "lapses", "fixed", 4, 1, 1), ("shut", 14, 14, 0), ("seal", 1))
        self.assertEqual(self.book.deed(("enter", 5, 1, "lapses", "anchor", 0, 1, 1)), [(5, 1, None, ("out", 14))])
        self.assertEqual(self.book.deed(("strike", 12)), [(12, 1, ("out", 14), None)])
        self.assertEqual(self.book.deed(("anchor", 1, 4)), [])
        self.refused(("shut", 14, 14, 1), 5, 1, 14)
        self.refused(("anchor", 1, 5), 5, 1, 15)

    def test_one_that_comes_to_be_out(self):
        self.given(("enter", 12, 3, "lapses", "fixed", 4, 1, 1), ("seal", 1))
        self.refused(("shut", 14, 14, 0), 12, 1, 14)
        self.assertEqual(self.book.deed(("shut", 14, 14, 3)), [])

    def test_out_on_a_sealed_day_and_standing_in_another_year(self):
        self.given(("enter", 12, 3, "lapses", "anchor", 6, 1, 1), ("shut", 15, 15, 0), ("seal", 1))
        self.assertEqual(self.book.place(12, 1), ("stands", 20))
        self.assertEqual(self.book.deed(("anchor", 1, 5)), [(12, 1, ("stands", 20), ("stands", 21))])
        self.given(("seal", 0), ("unseal", 1), ("anchor", 1, 4), ("shut", 10, 19, 0))
        self.book.deed(("enter", 13, 3, "lapses", "anchor", -3, 1, 1))
        self.assertEqual(self.book.place(13, 1), ("out", 11))
        self.refused(("anchor", 1, 0), 13, 1, 7)

    def test_the_days_behind_seal_nothing(self):
        self.given(("enter", 12, 3, "moves", "fixed", 9, 2, 2), ("enter", 13, 4, "moves", "anchor", 8, 2, 2),
                   ("seal", 0), ("seal", 1), ("seal", 2))
        self.assertEqual(self.book.place(13, 2), ("stands", 32))
        self.assertEqual(self.book.deed(("rank", 13, 9)), [])
        self.assertEqual(self.book.deed(("anchor", 2, 6)), [(13, 2, ("stands", 32), ("stands", 34))])
        self.assertEqual(self.book.deed(("strike", 13)), [(13, 2, ("stands", 34), None)])
        self.refused(("shut", 29, 29, 0), 12, 2, 29)

    def test_a_year_that_is_added_is_not_sealed(self):
        self.given(("seal", 2), ("enter", 12, 3, "moves", "fixed", 0, 3, 9))
        self.assertEqual(self.book.deed(("year", 10, 0)), [(12, 3, None, ("stands", 30))])
        self.given(("seal", 3))
        self.refused(("strike", 12), 12, 3, 30)

    def test_the_first_such_turn_by_number_and_then_year(self):
        self.given(("enter", 30, 1, "moves", "fixed", 4, 0, 9), ("enter", 12, 5, "moves", "fixed", 4, 0, 9),
                   ("enter", 7, 9, "moves", "fixed", 5, 0, 9))
        self.assertEqual(self.book.rows()[-1], (7, 2, "stands", 26))
        self.given(("seal", 1), ("seal", 2))
        self.refused(("strike", 30), 7, 1, 15)
        self.refused(("shut", 24, 24, 0), 7, 2, 26)
        self.given(("unseal", 1))
        self.refused(("strike", 30), 7, 2, 25)
        self.given(("unseal", 2), ("seal", 0))
        self.refused(("strike", 30), 7, 0, 5)

    def test_a_turn_in_an_open_year_ahead_of_the_first_such_one(self):
        self.given(("enter", 5, 3, "lapses", "fixed", 8, 0, 0), ("enter", 9, 3, "moves", "fixed", 0, 1, 1), ("seal", 1))
        self.refused(("shut", 8, 10, 0), 9, 1, 10)
        self.refused(("enter", 1, 1, "moves", "fixed", 0, 0, 1), 1, 1, 10)
        self.assertEqual(self.book.deed(("shut", 8, 9, 0)), [(5, 0, ("stands", 8), ("out", 8))])

    def test_the_last_and_the_first_day_of_a_sealed_year(self):
        self.given(("enter", 1, 3, "stays", "fixed", 9, 0, 0), ("enter", 2, 3, "stays", "fixed", 0, 1, 1),
                   ("enter", 3, 3, "stays", "fixed", 9, 1, 1), ("enter", 4, 3, "stays", "fixed", 0, 2, 2), ("seal", 1))
        self.assertEqual(self.book.deed(("strike", 1)), [(1, 0, ("stands", 9), None)])
        self.refused(("strike", 2), 2, 1, 10)
        self.refused(("strike", 3), 3, 1, 19)
        self.assertEqual(self.book.deed(("strike", 4)), [(4, 2, ("stands", 20), None)])

    def test_an_unsealed_year_is_turned(self):
        self.given(("enter", 12, 3, "moves", "fixed", 4, 1, 1), ("seal", 1))
        self.refused(("strike", 12), 12, 1, 14)
        self.given(("unseal", 1))
        self.assertEqual(self.book.deed(("strike", 12)), [(12, 1, ("stands", 14), None)])

    def test_sealed_goes_behind_all_others(self):
        self.given(("enter", 12, 3, "moves", "fixed", 4, 1, 1), ("seal", 0), ("seal", 1), ("seal", 2))
        ahead = whole(self.book)
        for order, kind in ((("enter", 12, 1, "moves", "fixed", 4, 1, 1), Taken), (("rank", 12, 0), BadFeast),
                            (("enter", 13, 0, "moves", "fixed", 4, 1, 1), BadFeast), (("strike", 13), NoFeast),
                            (("shut", 14, 14, 10), BadDay), (("shut", 14, 30, 0), BadDay),
                            (("anchor", 3, 0), NoYear), (("anchor", 1, 10), BadYear), (("year", 0, 0), BadYear)):
            with self.subTest(order=order), self.assertRaises(FeastError) as caught:
                self.book.deed(order)
            self.assertIs(type(caught.exception), kind)
            self.assertEqual(whole(self.book), ahead)
        self.refused(("strike", 12), 12, 1, 14)

    def test_it_may_go_on_behind_a_refusal(self):
        self.given(("enter", 12, 3, "moves", "fixed", 4, 1, 1), ("seal", 1))
        self.refused(("enter", 5, 1, "moves", "fixed", 4, 0, 2), 5, 1, 14)
        self.assertEqual(self.book.deed(("enter", 5, 1, "moves", "fixed", 4, 0, 0)), [(5, 0, None, ("stands", 4))])
        self.refused(("shut", 0, 29, 0), 12, 1, 14)
        self.assertEqual(self.book.shut(), {})
        self.assertEqual(self.book.deed(("anchor", 1, 5)), [])


if __name__ == "__main__":
    unittest.main()
