"""Points 1, 16 and 17: the book and its deeds; points 2, 12, 13 and 14 as far as a book tells them; point 25."""

import copy
import itertools
import random
import unittest

from feastfall.book import Book
from feastfall.errors import BadDay, BadFeast, BadYear, NoDay, NoFeast, NoYear, Sealed, Taken
from tests.test_laying import plain_laying
from tests.test_pages import plain_evening, plain_page
from tests.test_ranks import WAYS, from_highest
from tests.test_reasons import plain_reasons
from tests.test_turning import plain_turns

RULES = ("fixed", "anchor")


class PlainBook:
    """Points 16 to 19 word by word, so that the book is not checked by itself."""

    def __init__(self):
        self.lengths, self.anchors, self.feasts, self.shut, self.sealed = [], [], {}, {}, []

    def entries(self):
        entries = []
        for number, (rank, way, rule, day, since, until) in self.feasts.items():
            for year in range(since, until + 1):
                if year < len(self.lengths):
                    first = sum(self.lengths[:year])
                    own = first + day + (self.anchors[year] if rule == "anchor" else 0)
                    if own >= 0 and (rule == "anchor" or day < self.lengths[year]):
                        entries.append((rank, number, year, way, own))
        return from_highest(entries)

    def rows(self):
        return plain_laying(self.entries(), self.shut)

    def refusal(self, order):
        """The class of the refusal that goes first, but for Sealed, or None."""
        word, *parts = order
        if word == "year":
            return None if parts[0] in range(1, 401) and parts[1] in range(parts[0]) else BadYear
        if word == "enter":
            number, rank, _, rule, day, since, until = parts
            days = range(400) if rule == "fixed" else range(-400, 401)
            fits = (rank in range(1, 10) and number in range(10 ** 6) and day in days and since in range(100)
                    and until in range(100) and since <= until)
            return BadFeast if not fits else Taken if number in self.feasts else None
        if word in ("strike", "rank"):
            if parts[0] not in self.feasts:
                return NoFeast
            return BadFeast if word == "rank" and parts[1] not in range(1, 10) else None
        if word == "shut":
            first, last, bound = parts
            return None if 0 <= first <= last < sum(self.lengths) and bound in range(10) else BadDay
        if parts[0] not in range(len(self.lengths)):
            return NoYear
        return BadYear if word == "anchor" and parts[1] not in range(self.lengths[parts[0]]) else None

    def change(self, order):
        word, *parts = order
        if word == "year":
            self.lengths.append(parts[0])
            self.anchors.append(parts[1])
        elif word == "enter":
            self.feasts[parts[0]] = tuple(parts[1:])
        elif word == "strike":
            del self.feasts[parts[0]]
        elif word == "rank":
            self.feasts[parts[0]] = (parts[1],) + self.feasts[parts[0]][1:]
        elif word == "shut":
            for day in range(parts[0], parts[1] + 1):
                self.shut.pop(day, None)
                if parts[2] < 9:
                    self.shut[day] = parts[2]
        elif word == "anchor":
            self.anchors[parts[0]] = parts[1]
        else:
            self.sealed = sorted(set(self.sealed) - {parts[0]} | ({parts[0]} if word == "seal" else set()))

    def sealed_turn(self, turns):
        """What Sealed names, or None."""
        days = [day for year in self.sealed
                for day in range(sum(self.lengths[:year]), sum(self.lengths[:year + 1]))]
        for number, year, *places in turns:
            met = [place[1] for place in places if place and place[0] in ("stands", "noted") and place[1] in days]
            if met:
                return (number, year, min(met))
        return None

    def deed(self, order):
        """The class of a refusal, or what Sealed names, or the list of turns."""
        refusal = self.refusal(order)
        if refusal is not None:
            return refusal
        after = copy.deepcopy(self)
        after.change(order)
        befores, afters = self.rows(), after.rows()
        turns = plain_turns(sorted({row[:2] for row in befores + afters}), befores, afters)
        named = self.sealed_turn(turns)
        if named is not None:
            return named
        self.change(order)
        return turns


def outcome(book, order):
    """What a deed leads to, in the words of the plain book."""
    try:
        return book.deed(order)
    except Sealed as refusal:
        return (refusal.number, refusal.year, refusal.day)
    except (BadDay, BadFeast, BadYear, NoFeast, NoYear, Taken) as refusal:
        return type(refusal)


def book_by(*orders):
    """The book that a new one becomes by these orders."""
    book = Book()
    for order in orders:
        book.deed(order)
    return book


def whole(book):
    """All that a book tells of itself."""
    pages = [[book.page(year, day) for day in range(length)] for year, length in enumerate(book.lengths())]
    return (book.lengths(), book.sealed(), book.shut(), book.entries(), book.rows(), book.told(), pages)


def any_order(chance, plain):
    """An order of any kind that fits the plain book, or in a few cases does not."""
    years = len(plain.lengths)
    year = chance.randint(0, max(years - 1, 0))
    number = chance.choice(sorted(plain.feasts) + [chance.randrange(12)])
    day = chance.randrange(max(sum(plain.lengths), 1))
    rule = chance.choice(RULES)
    length = chance.choice((1, 2, 5, 9))
    orders = [
        ("enter", chance.randrange(12), chance.randint(1, 9), chance.choice(WAYS), rule,
         chance.randint(0, 8) if rule == "fixed" else chance.randint(-12, 12), chance.choice((0, 0, 1)),
         chance.choice((1, 2, 99))),
        ("strike", number), ("rank", number, chance.randint(1, 9)),
        ("shut", day, day + chance.choice((0, 0, 1, 5)), chance.choice((0, 3, 6, 9, 9))),
        ("anchor", year, chance.randrange(plain.lengths[year] if years else 3)),
        ("seal", year), ("unseal", year), ("unseal", year),
    ]
    if years < 6:
        orders += [("year", length, chance.randrange(length))] * (1 if years > 1 else 4)
    order = list(chance.choice(orders))
    if chance.random() < 0.1:
        at = chance.choice([at for at, part in enumerate(order) if isinstance(part, int)])
        order[at] = chance.choice((-1, 0, 10, 400, 401, 999999999999, -999999999999))
    return tuple(order)


class ANewBook(unittest.TestCase):
    def test_it_tells_nothing(self):
        book = Book()
        self.assertEqual([book.lengths(), book.sealed(), book.shut(), book.entries(), book.rows(), book.told()],
                         [[], [], {}, [], [], []])

    def test_its_days_are_all_behind(self):
        book = Book()
        for day in (0, 1, 400, 10 ** 12):
            self.assertEqual(book.page(0, day), (None, []))
            self.assertIsNone(book.evening(0, day))
        for year, day in ((-1, 0), (1, 0), (0, -1), (12, 5)):
            with self.assertRaises(NoDay):
                book.page(year, day)
            with self.assertRaises(NoDay):
                book.evening(year, day)

    def test_it_has_no_entry(self):
        for number, year in ((0, 0), (5, 1), (-1, 0), (999999, 99)):
            with self.assertRaises(NoFeast):
                Book().place(number, year)
            with self.assertRaises(NoFeast):
                Book().why(number, year)

    def test_two_new_books_go_their_own_ways(self):
        one, other = Book(), Book()
        one.deed(("year", 5, 0))
        one.deed(("enter", 3, 5, "moves", "fixed", 0, 0, 0))
        one.deed(("shut", 1, 2, 0))
        one.deed(("seal", 0))
        self.assertEqual(whole(other), whole(Book()))


class Entries(unittest.TestCase):
    def told(self, years, feast, expected):
        """Year by year, feast ahead of the years or behind them: the same entries."""
        orders = [("year", length, anchor) for length, anchor in years]
        for handed in (orders + [feast], [feast] + orders, orders[:1] + [feast] + orders[1:]):
            book = book_by(*handed)
            self.assertEqual([(year, own) for _, _, year, _, own in book.entries()], expected)
            self.assertEqual({entry[:2] + entry[3:4] for entry in book.entries()},
                             {(feast[2], feast[1], feast[3])} if expected else set())

    def test_feasts_ahead_of_any_year(self):
        book = Book()
        self.assertEqual(book.deed(("enter", 12, 3, "moves", "anchor", -5, 0, 9)), [])
        self.assertEqual(book.deed(("enter", 7, 3, "stays", "fixed", 2, 0, 99)), [])
        self.assertEqual((book.entries(), book.rows()), ([], []))
        self.assertEqual(book.told(), ["enter 7 3 stays fixed 2 0 99", "enter 12 3 moves anchor -5 0 9"])
        self.assertEqual(book.deed(("year", 10, 6)), [(7, 0, None, ("stands", 2)), (12, 0, None, ("stands", 1))])

    def test_by_the_rule_fixed(self):
        years = [(10, 3), (1, 0), (400, 9), (5, 0)]
        self.told(years, ("enter", 12, 3, "moves", "fixed", 0, 0, 9), [(0, 0), (1, 10), (2, 11), (3, 411)])
        self.told(years, ("enter", 12, 3, "stays", "fixed", 4, 0, 9), [(0, 4), (2, 15), (3, 415)])
        self.told(years, ("enter", 12, 3, "lapses", "fixed", 5, 0, 9), [(0, 5), (2, 16)])
        self.told(years, ("enter", 12, 3, "moves", "fixed", 9, 0, 9), [(0, 9), (2, 20)])
        self.told(years, ("enter", 12, 3, "moves", "fixed", 10, 0, 9), [(2, 21)])
        self.told(years, ("enter", 12, 3, "moves", "fixed", 399, 0, 9), [(2, 410)])
        self.told(years, ("enter", 12, 3, "moves", "fixed", 399, 0, 1), [])

    def test_by_the_rule_anchor(self):
        years = [(10, 3), (1, 0), (400, 9), (5, 4)]
        self.told(years, ("enter", 12, 3, "moves", "anchor", 0, 0, 9), [(0, 3), (1, 10), (2, 20), (3, 415)])
        self.told(years, ("enter", 12, 3, "stays", "anchor", 2, 0, 9), [(0, 5), (1, 12), (2, 22), (3, 417)])
        self.told(years, ("enter", 12, 3, "moves", "anchor", -3, 0, 9), [(0, 0), (1, 7), (2, 17), (3, 412)])
        self.told(years, ("enter", 12, 3, "moves", "anchor", -4, 0, 9), [(1, 6), (2, 16), (3, 411)])
        self.told(years, ("enter", 12, 3, "moves", "anchor", -10, 0, 9), [(1, 0), (2, 10), (3, 405)])
        self.told(years, ("enter", 12, 3, "moves", "anchor", -11, 0, 9), [(2, 9), (3, 404)])
        self.told(years, ("enter", 12, 3, "moves", "anchor", -400, 0, 9), [(3, 15)])
        self.told(years, ("enter", 12, 3, "moves", "anchor", 400, 0, 9), [(0, 403), (1, 410), (2, 420), (3, 815)])

    def test_since_and_until(self):
        years = [(5, 1)] * 5
        for rule, since, until in itertools.product(RULES, range(7), (0, 1, 3, 4, 5, 98, 99)):
            if since <= until:
                expected = [(year, 5 * year + 1) for year in range(5) if since <= year <= until]
                self.told(years, ("enter", 12, 3, "moves", rule, 1 if rule == "fixed" else 0, since, until), expected)
        self.told(years, ("enter", 12, 3, "moves", "fixed", 1, 99, 99), [])

    def test_an_own_day_in_the_days_behind_and_in_another_year(self):
        book = book_by(("year", 5, 4), ("year", 5, 0), ("enter", 1, 3, "moves", "anchor", 3, 0, 9),
                       ("enter", 2, 3, "stays", "anchor", 7, 0, 9), ("enter", 3, 3, "lapses", "anchor", -2, 0, 9))
        self.assertEqual(book.rows(), [(1, 0, "stands", 7), (1, 1, "stands", 8), (2, 0, "stands", 11),
                                       (2, 1, "stands", 12), (3, 0, "stands", 2), (3, 1, "stands", 3)])
        self.assertEqual(book.page(2, 1), ((2, 0), []))
        self.assertEqual(book.page(1, 2), ((1, 0), []))
        self.assertEqual(book.place(2, 1), ("stands", 12))

    def test_from_the_highest_down(self):
        book = book_by(("enter", 9, 1, "moves", "fixed", 0, 0, 9), ("enter", 2, 5, "stays", "fixed", 0, 0, 9),
                       ("year", 3, 0), ("enter", 1, 5, "lapses", "fixed", 1, 0, 9), ("year", 3, 0))
        self.assertEqual(book.entries(), [(1, 9, 0, "moves", 0), (1, 9, 1, "moves", 3), (5, 1, 0, "lapses", 1),
                                          (5, 1, 1, "lapses", 4), (5, 2, 0, "stays", 0), (5, 2, 1, "stays", 3)])

    def test_a_moved_anchor_moves_the_entries_of_its_year_alone(self):
        book = book_by(("year", 10, 3), ("year", 10, 3), ("enter", 1, 3, "moves", "anchor", 2, 0, 9),
                       ("enter", 2, 3, "moves", "fixed", 2, 0, 9))
        self.assertEqual(book.deed(("anchor", 1, 9)), [(1, 1, ("stands", 15), ("stands", 21))])
        self.assertEqual(book.place(1, 0), ("stands", 5))
        self.assertEqual(book.told()[:2], ["year 10 3", "year 10 9"])


class Deeds(unittest.TestCase):
    def setUp(self):
        self.book = book_by(("year", 10, 4), ("year", 10, 4), ("enter", 12, 3, "moves", "fixed", 4, 0, 9),
                            ("enter", 7, 5, "stays", "anchor", 0, 0, 9), ("enter", 30, 7, "moves", "fixed", 4, 0, 0))

    def test_the_rows_ahead(self):
        self.assertEqual(self.book.rows(), [(12, 0, "stands", 4), (12, 1, "stands", 14), (7, 0, "noted", 4),
                                            (7, 1, "noted", 14), (30, 0, "stands", 5)])

    def test_year(self):
        self.assertEqual(self.book.deed(("year", 6, 5)), [(7, 2, None, ("stands", 25)), (12, 2, None, ("stands", 24))])
        self.assertEqual(self.book.lengths(), [10, 10, 6])

    def test_a_year_takes_the_first_days_behind(self):
        self.book.deed(("enter", 40, 1, "moves", "anchor", 8, 1, 1))
        self.assertEqual(self.book.place(40, 1), ("stands", 22))
        self.assertEqual(self.book.page(2, 2), ((40, 1), []))
        with self.assertRaises(BadDay):
            self.book.deed(("shut", 22, 22, 0))
        self.book.deed(("year", 3, 0))
        self.assertEqual(self.book.place(40, 1), ("stands", 22))
        self.assertEqual(self.book.page(2, 2), ((40, 1), []))
        self.assertEqual(self.book.page(3, 0), (None, []))
        self.assertEqual(self.book.deed(("shut", 22, 22, 0)), [(40, 1, ("stands", 22), ("stands", 23))])
        self.assertEqual(self.book.page(3, 0), ((40, 1), []))

    def test_enter(self):
        self.assertEqual(self.book.deed(("enter", 8, 1, "lapses", "fixed", 4, 0, 99)), [
            (8, 0, None, ("stands", 4)), (8, 1, None, ("stands", 14)), (12, 0, ("stands", 4), ("stands", 5)),
            (12, 1, ("stands", 14), ("stands", 15)), (30, 0, ("stands", 5), ("stands", 6))])

    def test_strike(self):
        self.assertEqual(self.book.deed(("strike", 12)), [
            (7, 0, ("noted", 4), ("stands", 4)), (7, 1, ("noted", 14), ("stands", 14)), (12, 0, ("stands", 4), None),
            (12, 1, ("stands", 14), None)])
        self.assertEqual(len(self.book.told()), 4)
        self.assertEqual(self.book.deed(("enter", 12, 9, "moves", "fixed", 4, 1, 1)), [(12, 1, None, ("stands", 15))])

    def test_rank(self):
        self.assertEqual(self.book.deed(("rank", 30, 2)), [
            (12, 0, ("stands", 4), ("stands", 5)), (30, 0, ("stands", 5), ("stands", 4))])
        self.assertEqual(self.book.entries()[0], (2, 30, 0, "moves", 4))
        self.assertEqual(self.book.deed(("rank", 30, 2)), [])
        self.assertEqual(self.book.told()[-1], "enter 30 2 moves fixed 4 0 0")

    def test_shut(self):
        self.assertEqual(self.book.deed(("shut", 4, 5, 2)), [
            (12, 0, ("stands", 4), ("stands", 6)), (30, 0, ("stands", 5), ("stands", 7))])
        self.assertEqual(self.book.shut(), {4: 2, 5: 2})
        self.assertEqual(self.book.deed(("shut", 5, 14, 3)), [
            (12, 0, ("stands", 6), ("stands", 5)), (30, 0, ("stands", 7), ("stands", 15))])
        self.assertEqual(self.book.shut(), {4: 2, **{day: 3 for day in range(5, 15)}})
        self.assertEqual(self.book.deed(("shut", 0, 19, 9)), [
            (12, 0, ("stands", 5), ("stands", 4)), (30, 0, ("stands", 15), ("stands", 5))])
        self.assertEqual(self.book.shut(), {})

    def test_a_bound_in_the_place_of_another(self):
        for one, other in itertools.product(range(10), repeat=2):
            book = book_by(("year", 6, 0), ("shut", 1, 3, one), ("shut", 3, 4, other))
            expected = {day: bound for day, bound in ((1, one), (2, one), (3, other), (4, other)) if bound < 9}
            self.assertEqual(book.shut(), expected)

    def test_opening_what_is_open(self):
        self.assertEqual(self.book.deed(("shut", 0, 19, 9)), [])
        self.assertEqual(self.book.shut(), {})
        self.assertEqual(self.book.told()[-1][:5], "enter")

    def test_the_first_and_the_last_day(self):
        self.book.deed(("shut", 0, 0, 0))
        self.book.deed(("shut", 19, 19, 8))
        self.assertEqual(self.book.shut(), {0: 0, 19: 8})

    def test_anchor(self):
        self.assertEqual(self.book.deed(("anchor", 0, 5)), [(7, 0, ("noted", 4), ("stands", 5)),
                                                            (30, 0, ("stands", 5), ("stands", 6))])
        self.assertEqual(self.book.deed(("anchor", 0, 5)), [])
        self.assertEqual(self.book.told()[:2], ["year 10 5", "year 10 4"])

    def test_seal_and_unseal(self):
        for order, expected in ((("unseal", 0), []), (("seal", 1), [1]), (("seal", 1), [1]), (("seal", 0), [0, 1]),
                                (("seal", 1), [0, 1]), (("unseal", 1), [0]), (("unseal", 1), [0]),
                                (("unseal", 0), [])):
            self.assertEqual(self.book.deed(order), [])
            self.assertEqual(self.book.sealed(), expected)

    def test_sealed_years_rise(self):
        book = book_by(*[("year", 3, 0)] * 12)
        for year in (11, 2, 10, 0, 7):
            book.deed(("seal", year))
        self.assertEqual(book.sealed(), [0, 2, 7, 10, 11])

    def test_turns_go_by_number_and_then_year(self):
        book = book_by(*[("year", 5, 0)] * 12)
        for number in (100, 9, 20):
            book.deed(("enter", number, 5, "moves", "fixed", 0, 0, 11))
        turns = book.deed(("shut", 0, 59, 0))
        self.assertEqual([turn[:2] for turn in turns],
                         [(number, year) for number in (9, 20, 100) for year in range(12)])

    def test_many_deeds_against_a_plain_reckoning(self):
        met = set()
        for seed in range(60):
            chance = random.Random(seed)
            book, plain = Book(), PlainBook()
            for _ in range(40):
                order = any_order(chance, plain)
                expected = plain.deed(order)
                self.assertEqual(outcome(book, order), expected, (seed, order))
                self.assertEqual(book.rows(), plain.rows())
                met.add((order[0], expected if isinstance(expected, type) else type(expected)))
            self.assertEqual((book.lengths(), book.sealed(), book.shut(), book.entries()),
                             (plain.lengths, plain.sealed, plain.shut, plain.entries()))
        for word in ("year", "enter", "strike", "rank", "shut", "anchor"):
            self.assertIn((word, tuple), met)
            self.assertIn((word, list), met)


class WhatABookTells(unittest.TestCase):
    def setUp(self):
        self.books = []
        for seed in range(12):
            chance = random.Random(seed)
            book, plain = Book(), PlainBook()
            for _ in range(40):
                order = any_order(chance, plain)
                if order[0] not in ("seal", "strike"):
                    outcome(book, order)
                    plain.deed(order)
            self.books.append((book, plain))

    def test_pages_and_evenings_of_all_dates(self):
        for book, plain in self.books:
            entries, rows, day = plain.entries(), plain.rows(), 0
            for year, length in enumerate(plain.lengths + [80]):
                for at in range(length):
                    self.assertEqual(book.page(year, at), plain_page(rows, day))
                    self.assertEqual(book.evening(year, at), plain_evening(entries, rows, day))
                    day += 1

    def test_an_evening_of_two_years(self):
        book = book_by(("year", 3, 0), ("year", 3, 0), ("enter", 1, 4, "moves", "fixed", 2, 0, 9),
                       ("enter", 2, 5, "moves", "fixed", 0, 0, 9), ("enter", 3, 4, "moves", "anchor", 3, 1, 1))
        self.assertEqual(book.evening(0, 2), (1, 0))
        self.assertEqual(book.evening(1, 2), (3, 1))
        self.assertEqual(book.evening(2, 0), (3, 1))
        self.assertIsNone(book.evening(2, 1))
        self.assertEqual(book.evening(0, 0), (2, 0))
        self.assertEqual(book.evening(0, 1), (1, 0))

    def test_no_day(self):
        for book, plain in self.books:
            years = len(plain.lengths)
            wrong = [(-1, 0), (years + 1, 0), (0, -1), (years, -1), (-999999999999, 0), (999999999999, 0)]
            wrong += [(year, length) for year, length in enumerate(plain.lengths)]
            wrong += [(year, 999999999999) for year in range(years)]
            for year, day in wrong:
                for ask in (book.page, book.evening):
                    with self.subTest(year=year, day=day), self.assertRaises(NoDay):
                        ask(year, day)

    def test_days_far_behind(self):
        for book, plain in self.books:
            self.assertEqual(book.page(len(plain.lengths), 999999999999), (None, []))
            self.assertIsNone(book.evening(len(plain.lengths), 999999999999))

    def test_places_and_reasons(self):
        for book, plain in self.books:
            entries = plain.entries()
            for number, year, how, day in plain.rows():
                self.assertEqual(book.place(number, year), (how, day))
                self.assertEqual(book.why(number, year), plain_reasons(entries, plain.shut, number, year))

    def test_no_such_entry(self):
        book = book_by(("year", 5, 0), ("year", 3, 0), ("enter", 12, 3, "moves", "fixed", 4, 0, 9),
                       ("enter", 7, 3, "stays", "anchor", -2, 0, 9), ("enter", 30, 3, "lapses", "fixed", 0, 1, 1))
        self.assertEqual([row[:2] for row in book.rows()], [(7, 1), (12, 0), (30, 1)])
        for name in ((7, 0), (12, 1), (12, 2), (30, 0), (30, 2), (0, 0), (1, 7), (-7, 1), (7, -1), (999999999999, 0)):
            for ask in (book.place, book.why):
                with self.subTest(name=name), self.assertRaises(NoFeast):
                    ask(*name)

    def test_entries_that_are_gone(self):
        book = book_by(("year", 5, 3), ("enter", 12, 3, "moves", "fixed", 4, 0, 9),
                       ("enter", 7, 3, "stays", "anchor", -2, 0, 9))
        self.assertEqual(book.place(12, 0), ("stands", 4))
        self.assertEqual(book.place(7, 0), ("stands", 1))
        book.deed(("strike", 12))
        book.deed(("anchor", 0, 1))
        for name in ((12, 0), (7, 0)):
            for ask in (book.place, book.why):
                with self.assertRaises(NoFeast):
                    ask(*name)
        self.assertEqual(book.rows(), [])


class TheOrderOfDeeds(unittest.TestCase):
    """Point 1: what stands on the days never hangs on it."""

    years = [("year", 7, 3), ("year", 12, 0), ("year", 1, 0), ("year", 9, 8)]

    def parts(self, chance):
        """Feasts and shut days that hang on nothing but the years, and these in their order."""
        feasts = [("enter", number, chance.randint(1, 9), chance.choice(WAYS), rule,
                   chance.randint(0, 8) if rule == "fixed" else chance.randint(-12, 12), 0, chance.choice((1, 9)))
                  for number in range(12) for rule in [chance.choice(RULES)]]
        days = chance.sample(range(29), 12)
        return feasts, [("shut", day, day, chance.randint(0, 8)) for day in days]

    def mixed(self, chance, feasts, shuts):
        """The same orders, each shut day somewhere behind the year in which it lies."""
        orders = list(self.years)
        for order in feasts:
            orders.insert(chance.randint(0, len(orders)), order)
        for order in shuts:
            lengths, needed = 0, 0
            while lengths <= order[1]:
                lengths += orders[needed][1] if orders[needed][0] == "year" else 0
                needed += 1
            orders.insert(chance.randint(needed, len(orders)), order)
        return orders

    def test_the_same_pages_and_texts(self):
        for seed in range(25):
            chance = random.Random(seed)
            feasts, shuts = self.parts(chance)
            expected = whole(book_by(*self.years, *feasts, *shuts))
            for _ in range(6):
                self.assertEqual(whole(book_by(*self.mixed(chance, feasts, shuts))), expected)

    def test_by_detours(self):
        for seed in range(25):
            chance = random.Random(seed)
            feasts, shuts = self.parts(chance)
            expected = whole(book_by(*self.years, *feasts, *shuts))
            book = book_by(("enter", 50, 1, "moves", "anchor", 0, 0, 9), *[(word, length, 0)
                                                                           for word, length, _ in self.years])
            book.deed(("shut", 0, 28, chance.randint(0, 8)))
            for word, number, rank, way, *rest in feasts:
                book.deed((word, number, 10 - rank, way, *rest))
            book.deed(("seal", 2))
            book.deed(("unseal", 2))
            for year, (_, _, anchor) in enumerate(self.years):
                book.deed(("anchor", year, anchor))
            for _, number, rank, *_ in feasts[::-1]:
                book.deed(("rank", number, rank))
            book.deed(("shut", 0, 28, 9))
            for order in shuts[::-1]:
                book.deed(order)
            book.deed(("strike", 50))
            self.assertEqual(whole(book), expected)


class OwnWays(unittest.TestCase):
    """Point 25 for the book."""

    def setUp(self):
        self.orders = [("year", 10, 4), ("year", 10, 4), ("enter", 12, 3, "moves", "fixed", 4, 0, 9),
                       ("enter", 7, 5, "stays", "anchor", 0, 0, 9), ("enter", 8, 5, "stays", "anchor", 0, 0, 9),
                       ("shut", 5, 7, 2), ("seal", 1)]
        self.book = book_by(*self.orders)

    def test_what_kinds_are_told(self):
        book = self.book
        self.assertEqual([type(part) for part in whole(book)], [list, list, dict, list, list, list, list])
        self.assertEqual({type(row) for row in book.rows() + book.entries()}, {tuple})
        self.assertEqual({type(text) for text in book.told()}, {str})
        self.assertEqual({type(part) for part in (book.place(12, 0), book.page(0, 4), book.evening(0, 4))}, {tuple})
        self.assertEqual([type(book.why(12, 0)), type(book.page(0, 4)[1])], [list, list])
        self.assertEqual(type(book.deed(("seal", 1))), list)

    def test_a_change_of_what_is_told_changes_nothing(self):
        book = self.book
        turns = book.deed(("enter", 1, 9, "moves", "fixed", 0, 0, 0))
        self.assertEqual(len(turns), 1)
        expected = whole(book)
        for part in (turns, book.lengths(), book.sealed(), book.entries(), book.rows(), book.told(), book.why(7, 0),
                     book.page(0, 4)[1]):
            part.append(99)
            part.reverse()
            part[:] = part[:1]
        shut = book.shut()
        shut[0] = 0
        del shut[5]
        self.assertEqual(whole(book), expected)

    def test_a_twin_is_the_same(self):
        twin = self.book.twin()
        self.assertIsInstance(twin, Book)
        self.assertIsNot(twin, self.book)
        self.assertEqual(whole(twin), whole(self.book))
        self.assertEqual(whole(Book().twin()), whole(Book()))

    def test_a_twin_goes_its_own_way(self):
        deeds = (("year", 3, 0), ("enter", 1, 1, "moves", "fixed", 4, 0, 0), ("strike", 7), ("rank", 12, 9),
                 ("shut", 0, 9, 0), ("shut", 5, 5, 9), ("anchor", 0, 9), ("seal", 0), ("unseal", 1))
        for order in deeds:
            book = book_by(*self.orders[:-1]) if order[0] != "unseal" else book_by(*self.orders)
            ahead = whole(book)
            twin = book.twin()
            twin.deed(order)
            self.assertEqual(whole(book), ahead, order)
            self.assertNotEqual(whole(twin), ahead, order)
            second = book.twin()
            behind = whole(twin)
            book.deed(order)
            self.assertEqual(whole(second), ahead, order)
            self.assertEqual(whole(book), behind, order)
            self.assertEqual(whole(twin), behind, order)

    def test_twins_of_twins(self):
        chance = random.Random(4)
        books = [(Book(), PlainBook())]
        for _ in range(150):
            book, plain = chance.choice(books)
            if len(books) < 12:
                books.append((book.twin(), copy.deepcopy(plain)))
            order = any_order(chance, plain)
            self.assertEqual(outcome(book, order), plain.deed(order))
        for book, plain in books:
            self.assertEqual((book.rows(), book.shut(), book.sealed()), (plain.rows(), plain.shut, plain.sealed))


if __name__ == "__main__":
    unittest.main()
