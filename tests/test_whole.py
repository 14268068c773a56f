"""The whole program: books up to the bounds in short time, and all modules held against one another."""

import random
import unittest

from feastfall.book import Book, book_of
from feastfall.days import date, line, total
from feastfall.desk import Desk
from feastfall.errors import Sealed
from feastfall.laying import lay
from feastfall.looker import fault
from feastfall.pages import evening_of, held, page_of, runs, stretch, waited
from feastfall.ranks import ordered
from feastfall.reasons import reasons_of
from feastfall.turning import put_in, take_out, turned
from feastfall.words import read, shown
from feastfall.yearlog import Log
from tests.test_book import RULES, WAYS, PlainBook, any_order, book_by, outcome, whole
from tests.test_looker import soon
from tests.test_pages import plain_runs, plain_waited


def full_orders(chance, bounds, years=12):
    """A book up to its bounds: years of 400 days, sixty feasts in each of them, and each day with a bound."""
    orders = [("year", 400, chance.randrange(400)) for _ in range(years)]
    for number in chance.sample(range(1000000), 60):
        rule = chance.choice(RULES)
        day = chance.randrange(400) if rule == "fixed" else chance.randint(-400, 400)
        orders.append(("enter", number, chance.randint(1, 9), chance.choice(WAYS), rule, day, 0, 99))
    for day in range(0, 400 * years, 25):
        orders.append(("shut", day, day + 24, bounds[day // 25 % len(bounds)]))
    return orders


def plain_of(orders):
    plain = PlainBook()
    for order in orders:
        plain.change(order)
    return plain


class UpToTheBounds(unittest.TestCase):
    def test_books_against_a_plain_reckoning(self):
        for seed, bounds in enumerate(((0,), (0, 8, 3, 5, 1, 9, 2), (9,), (4, 4, 6))):
            orders = full_orders(random.Random(seed), bounds)
            with soon():
                book = book_of([shown(order) for order in orders])
                rows = book.rows()
            plain = plain_of(orders)
            self.assertGreater(len(rows), 650)
            self.assertEqual(book.entries(), plain.entries())
            self.assertEqual(book.shut(), plain.shut)
            self.assertEqual(rows, plain.rows())

    def test_deed_by_deed(self):
        orders = full_orders(random.Random(5), (0, 7, 3))
        with soon(60):
            book = book_by(*orders)
            texts = book.told()
            self.assertEqual(whole(book_of(texts)), whole(book))
        self.assertEqual(book.rows(), plain_of(orders).rows())

    def test_each_deed_of_a_full_book(self):
        orders = full_orders(random.Random(6), (0, 7, 3))
        number = orders[20][1]
        with soon():
            book = book_by(*orders)
            plain = plain_of(orders)
            for order in (("strike", orders[30][1]), ("rank", number, 1), ("shut", 0, 4799, 0), ("shut", 0, 4799, 9),
                          ("anchor", 5, 0), ("seal", 3), ("unseal", 4), ("anchor", 3, 1), ("shut", 1200, 1599, 0)):
                self.assertEqual(outcome(book, order), plain.deed(order))
            self.assertEqual(book.rows(), plain.rows())

    def test_all_days_shut_to_all(self):
        orders = [("year", 400, 0)] * 12 + [("enter", number, 5, "moves", "fixed", 0, 0, 99) for number in range(60)]
        with soon():
            book = book_by(*orders)
            turns = book.deed(("shut", 0, 4799, 0))
            self.assertEqual(len(turns), 720)
            self.assertEqual([row[3] for row in book.rows()], list(range(4800, 5520)))
            self.assertEqual(len(book.why(59, 11)), 400 + 719)
            self.assertEqual(book.told()[-1], "shut 0 4799 0")
            self.assertEqual(book.page(12, 719), ((59, 11), []))

    def test_5000_shut_days(self):
        orders = [("year", 400, 0)] * 13 + [("enter", 5, 5, "moves", "fixed", 0, 0, 0)]
        orders += [("shut", day, day, day % 4) for day in range(5000)]
        with soon():
            book = book_of([shown(order) for order in orders])
            self.assertEqual(book.shut(), {day: day % 4 for day in range(5000)})
            self.assertEqual(book.place(5, 0), ("stands", 5000))
            self.assertEqual(len(book.why(5, 0)), 5000)
            self.assertEqual(len(book.told()), 13 + 1 + 5000)
            self.assertEqual(book_of(book.told()).told(), book.told())

    def test_all_pages_and_evenings(self):
        orders = full_orders(random.Random(7), (9, 9, 0))
        book = book_by(*orders)
        rows, entries = book.rows(), book.entries()
        with soon():
            for day in range(0, 5200, 3):
                year, at = date(book.lengths(), day)
                self.assertEqual(book.page(year, at), page_of(rows, day))
                self.assertEqual(book.evening(year, at), evening_of(entries, rows, day))

    def test_a_log_of_a_full_book(self):
        orders = full_orders(random.Random(8), (0, 7, 3))
        log = Log()
        with soon(60):
            turns = [log.deed(order) for order in orders]
            for expected in turns[:-60:-1]:
                self.assertEqual(log.back(), [(number, year, after, before)
                                              for number, year, before, after in expected])
            for expected in turns[-59:]:
                self.assertEqual(log.forth(), expected)
            self.assertEqual(log.between(0, log.stand()), turned([], log.book().rows()))

    def test_a_desk_with_a_full_book(self):
        orders = full_orders(random.Random(9), (0, 7, 3))
        desk = Desk()
        with soon(60):
            for order in orders:
                for text in desk.say(shown(order)):
                    self.assertFalse(text.startswith("no"))
            book = book_by(*orders)
            self.assertEqual(desk.say("book"), book.told())
            self.assertEqual(len(desk.say("rows")), len(book.rows()))
            for year in range(13):
                self.assertEqual(len(desk.say(f"page {year} 399")), 1 + len(book.page(year, 399)[1]))

    def test_the_last_numbers_years_and_days(self):
        book = book_by(*[("year", 400, 399)] * 12, ("enter", 999999, 9, "moves", "anchor", 400, 0, 99),
                       ("enter", 0, 1, "lapses", "anchor", -400, 0, 99), ("enter", 1, 1, "stays", "fixed", 399, 11, 99))
        self.assertEqual(book.rows()[:3], [(0, 1, "stands", 399), (0, 2, "stands", 799), (0, 3, "stands", 1199)])
        self.assertEqual(book.place(1, 11), ("stands", 4799))
        self.assertEqual(book.place(999999, 11), ("stands", 5199))
        self.assertEqual(book.place(999999, 0), ("stands", 800))
        self.assertEqual(book.why(999999, 0), [(799, "held", 0, 2)])


class AllTogether(unittest.TestCase):
    def books(self, count):
        for seed in range(count):
            chance = random.Random(1000 + seed)
            book, plain = Book(), PlainBook()
            for _ in range(40):
                order = any_order(chance, plain)
                outcome(book, order)
                plain.deed(order)
            yield book

    def test_the_laying_has_no_fault(self):
        for book in self.books(30):
            self.assertEqual(book.rows(), lay(book.entries(), book.shut()))
            self.assertIsNone(fault(book.entries(), book.shut(), book.rows()))
            self.assertEqual(book.entries(), ordered(book.entries()[::-1]))

    def test_places_pages_and_reasons_agree(self):
        for book in self.books(30):
            entries, shut, rows, lengths = book.entries(), book.shut(), book.rows(), book.lengths()
            for number, year, how, day in rows:
                self.assertEqual(book.place(number, year), (how, day))
                self.assertEqual(book.why(number, year), reasons_of(entries, shut, number, year))
                holder, noted = book.page(*date(lengths, day))
                self.assertEqual((number, year) == holder, how == "stands")
                self.assertEqual((number, year) in noted, how == "noted")
            self.assertEqual(held(rows), [day for day in range(200) if page_of(rows, day)[0] is not None])
            self.assertEqual(waited(entries, rows), plain_waited(entries, rows))
            self.assertEqual(runs(entries, rows), plain_runs(entries, rows))
            self.assertLessEqual(max(shut, default=-1), total(lengths) - 1)

    def test_striking_and_entering_a_feast_of_one_entry(self):
        for seed in range(30):
            chance = random.Random(seed)
            book = book_by(("year", 30, 15), *[("enter", number, chance.randint(1, 9), chance.choice(WAYS), "anchor",
                                                chance.randint(-5, 5), 0, 0) for number in range(12)])
            order = ("enter", 50, chance.randint(1, 9), chance.choice(WAYS), "anchor", 0, 0, 0)
            entries = book.entries()
            laying, turns = put_in(entries, {}, (order[2], 50, 0, order[3], 15))
            self.assertEqual(book.deed(order), sorted(turns))
            self.assertEqual(book.rows(), laying)
            laying, turns = take_out(book.entries(), {}, 50, 0)
            self.assertEqual(sorted(book.deed(("strike", 50)), key=str), sorted(turns, key=str))
            self.assertEqual((book.rows(), book.entries()), (laying, entries))

    def test_a_sealed_deed_would_turn_the_day_it_names(self):
        met = 0
        for seed in range(60):
            chance = random.Random(seed)
            book, plain = Book(), PlainBook()
            for _ in range(40):
                order = any_order(chance, plain)
                rows = book.rows()
                try:
                    turns = book.deed(order)
                except Sealed as refusal:
                    year, _ = date(book.lengths(), refusal.day)
                    self.assertIn(year, book.sealed())
                    free = book.twin()
                    for sealed in book.sealed():
                        free.deed(("unseal", sealed))
                    turns = [turn for turn in free.deed(order) if turn[:2] == (refusal.number, refusal.year)]
                    first, last = stretch(turns)
                    self.assertTrue(first <= refusal.day <= last)
                    met += 1
                except ValueError:
                    pass
                else:
                    self.assertEqual(turns, turned(rows, book.rows()))
                plain.deed(order)
        self.assertGreater(met, 50)

    def test_orders_as_texts_lead_to_the_same_book(self):
        for seed in range(20):
            chance = random.Random(seed)
            plain, desk, log = PlainBook(), Desk(), Log()
            for _ in range(30):
                order = any_order(chance, plain)
                self.assertEqual(read(shown(order)), order)
                desk.say(shown(order))
                outcome(log, order)
                plain.deed(order)
            self.assertEqual(desk.say("book"), log.book().told())

    def test_days_of_a_book_and_their_dates(self):
        for book in self.books(10):
            lengths = book.lengths()
            for day in range(total(lengths) + 5):
                self.assertEqual(line(lengths, *date(lengths, day)), day)
                self.assertEqual(book.page(*date(lengths, day)), page_of(book.rows(), day))


if __name__ == "__main__":
    unittest.main()
