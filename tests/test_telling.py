"""Point 21: a book as texts, and the book of texts; point 25 for book_of."""

import random
import unittest

from feastfall.book import Book, book_of
from feastfall.errors import BadDay, BadFeast, BadYear, FeastError, NoFeast, NoOrder, NoYear, Sealed, Taken
from feastfall.words import read, shown
from tests.test_book import PlainBook, any_order, book_by, outcome, whole


def plain_texts(plain):
    """Point 21 word by word, of a plain book whose numbers are below 100."""
    texts = [f"year {length} {anchor}" for length, anchor in zip(plain.lengths, plain.anchors)]
    for number in range(100):
        if number in plain.feasts:
            texts.append("enter " + " ".join(map(str, (number,) + plain.feasts[number])))
    for first in range(sum(plain.lengths)):
        bound = plain.shut.get(first)
        if bound is not None and plain.shut.get(first - 1) != bound:
            last = first
            while plain.shut.get(last + 1) == bound:
                last += 1
            texts.append(f"shut {first} {last} {bound}")
    return texts + [f"seal {year}" for year in range(len(plain.lengths)) if year in plain.sealed]


def many_books(count):
    """Books by many deeds, each with its plain one and the orders that were done."""
    for seed in range(count):
        chance = random.Random(seed)
        book, plain, done = Book(), PlainBook(), []
        for _ in range(chance.choice((5, 20, 60))):
            order = any_order(chance, plain)
            plain.deed(order)
            if isinstance(outcome(book, order), list):
                done.append(order)
        yield book, plain, done


class Told(unittest.TestCase):
    def test_a_new_book(self):
        self.assertEqual(Book().told(), [])

    def test_each_sort_in_its_order(self):
        book = book_by(("enter", 100, 2, "lapses", "fixed", 399, 99, 99), ("year", 5, 2), ("year", 400, 0),
                       ("shut", 7, 9, 0), ("enter", 12, 3, "moves", "anchor", -5, 0, 9), ("year", 1, 0), ("seal", 1),
                       ("shut", 2, 2, 8), ("enter", 9, 9, "stays", "fixed", 0, 5, 5), ("seal", 0))
        self.assertEqual(book.told(), [
            "year 5 2", "year 400 0", "year 1 0", "enter 9 9 stays fixed 0 5 5", "enter 12 3 moves anchor -5 0 9",
            "enter 100 2 lapses fixed 399 99 99", "shut 2 2 8", "shut 7 9 0", "seal 0", "seal 1"])

    def test_feasts_by_rising_number_and_not_by_rank_or_text(self):
        book = Book()
        for number in (1000, 9, 999999, 0, 20, 100):
            book.deed(("enter", number, 1 + number % 9, "moves", "fixed", 0, 0, 0))
        self.assertEqual([text.split(" ")[1] for text in book.told()], ["0", "9", "20", "100", "1000", "999999"])

    def test_a_stretch_over_the_end_of_a_year(self):
        book = book_by(("year", 5, 0), ("year", 5, 0), ("year", 5, 0), ("shut", 3, 4, 2), ("shut", 5, 6, 2))
        self.assertEqual(book.told()[3:], ["shut 3 6 2"])
        book.deed(("shut", 7, 14, 2))
        self.assertEqual(book.told()[3:], ["shut 3 14 2"])
        book.deed(("year", 1, 0))
        book.deed(("shut", 15, 15, 2))
        self.assertEqual(book.told()[4:], ["shut 3 15 2"])

    def test_two_bounds_side_by_side(self):
        book = book_by(("year", 9, 0), ("shut", 0, 3, 2), ("shut", 4, 8, 3))
        self.assertEqual(book.told()[1:], ["shut 0 3 2", "shut 4 8 3"])
        book.deed(("shut", 2, 2, 0))
        self.assertEqual(book.told()[1:], ["shut 0 1 2", "shut 2 2 0", "shut 3 3 2", "shut 4 8 3"])
        book.deed(("shut", 3, 3, 9))
        self.assertEqual(book.told()[1:], ["shut 0 1 2", "shut 2 2 0", "shut 4 8 3"])
        book.deed(("shut", 2, 5, 2))
        self.assertEqual(book.told()[1:], ["shut 0 5 2", "shut 6 8 3"])

    def test_a_day_that_is_open_parts_two_stretches(self):
        book = book_by(("year", 9, 0), ("shut", 0, 8, 0), ("shut", 4, 4, 9))
        self.assertEqual(book.told()[1:], ["shut 0 3 0", "shut 5 8 0"])
        book.deed(("shut", 0, 8, 9))
        self.assertEqual(book.told(), ["year 9 0"])

    def test_each_day_with_another_bound(self):
        orders = [("year", 400, 0)] + [("shut", day, day, day % 9) for day in range(400)]
        self.assertEqual(book_by(*orders).told(), [shown(order) for order in orders])

    def test_ranks_and_anchors_as_they_are_now(self):
        book = book_by(("year", 5, 2), ("enter", 1, 3, "stays", "fixed", 0, 0, 9), ("anchor", 0, 4), ("rank", 1, 8),
                       ("seal", 0), ("unseal", 0))
        self.assertEqual(book.told(), ["year 5 4", "enter 1 8 stays fixed 0 0 9"])

    def test_many_books(self):
        for book, plain, _ in many_books(60):
            self.assertEqual(book.told(), plain_texts(plain))


class TheBookOfTexts(unittest.TestCase):
    def test_of_none(self):
        book = book_of([])
        self.assertIsInstance(book, Book)
        self.assertEqual(whole(book), whole(Book()))

    def test_what_a_book_tells_makes_the_same(self):
        for book, _, _ in many_books(60):
            again = book_of(book.told())
            self.assertEqual(whole(again), whole(book))
            for number, year, _, _ in book.rows():
                self.assertEqual(again.why(number, year), book.why(number, year))

    def test_orders_of_all_kinds_one_by_one(self):
        for book, _, done in many_books(60):
            self.assertEqual(whole(book_of([shown(order) for order in done])), whole(book))

    def test_it_goes_on_as_any_other_book(self):
        for book, plain, _ in many_books(20):
            again = book_of(book.told())
            chance = random.Random(5)
            for _ in range(15):
                order = any_order(chance, plain)
                self.assertEqual(outcome(again, order), plain.deed(order))

    def test_each_text_is_refused_as_the_deed_is(self):
        met = set()
        for seed in range(120):
            chance = random.Random(seed)
            plain, texts = PlainBook(), []
            for _ in range(40):
                order = any_order(chance, plain)
                texts.append(shown(order))
                expected = plain.deed(order)
                if not isinstance(expected, list):
                    with self.assertRaises(FeastError) as caught:
                        book_of(texts + ["strike", "year 0 0"])
                    found = caught.exception
                    if isinstance(found, Sealed):
                        self.assertEqual((found.number, found.year, found.day), expected)
                    else:
                        self.assertIs(type(found), expected)
                    met.add(type(found))
                    texts.pop()
            self.assertEqual(book_of(texts).rows(), plain.rows())
        self.assertEqual(met, {BadDay, BadFeast, BadYear, NoFeast, NoYear, Sealed, Taken})

    def test_the_first_that_is_refused(self):
        good = ["year 5 2", "enter 12 3 moves fixed 2 0 9", "seal 0"]
        wrong = (("year 0 0", BadYear), ("enter 12 3 moves fixed 2 0 9", Taken), ("strike 12", Sealed), ("", NoOrder),
                 ("strike 5", NoFeast), ("rank 12 0", BadFeast), ("seal 1", NoYear), ("shut 0 5 0", BadDay),
                 ("rows", NoOrder), ("back", NoOrder), ("page 0 0", NoOrder), ("seal -0", NoOrder))
        for text, kind in wrong:
            for other, _ in wrong:
                with self.subTest(text=text), self.assertRaises(FeastError) as caught:
                    book_of(good + [text, other])
                self.assertIs(type(caught.exception), kind)

    def test_what_stands_ahead_of_the_first_that_is_refused_is_nowhere(self):
        with self.assertRaises(NoOrder):
            book_of(["year 5 2", "no"])
        self.assertEqual(book_of([]).told(), [])

    def test_seals_ahead_of_other_orders(self):
        texts = ["year 5 2", "year 5 2", "seal 0", "enter 12 3 moves fixed 2 1 1", "seal 1"]
        self.assertEqual(book_of(texts).rows(), [(12, 1, "stands", 7)])
        for text, found in (("strike 12", (12, 1, 7)), ("shut 7 7 0", (12, 1, 7)), ("year 400 0", None),
                            ("enter 13 1 moves anchor 0 0 0", (13, 0, 2)), ("shut 6 6 0", None)):
            if found is None:
                self.assertEqual(book_of(texts + [text]).rows(), [(12, 1, "stands", 7)])
                continue
            with self.subTest(text=text), self.assertRaises(Sealed) as caught:
                book_of(texts + [text])
            refusal = caught.exception
            self.assertEqual((refusal.number, refusal.year, refusal.day), found)

    def test_the_list_handed_in_stays(self):
        for texts in (["year 5 2", "enter 12 3 moves fixed 2 0 9"], ["year 5 2", "year 0 0", "seal 0"], ["no"], []):
            kept = list(texts)
            try:
                book = book_of(texts)
            except FeastError:
                book = None
            self.assertEqual(texts, kept)
            texts.clear()
            if book is not None:
                self.assertEqual(book.told(), kept)

    def test_a_change_of_the_texts_changes_nothing(self):
        book = book_by(("year", 5, 2), ("enter", 12, 3, "moves", "fixed", 2, 0, 9))
        texts = book.told()
        again = book_of(texts)
        texts.append("strike 12")
        texts.reverse()
        self.assertEqual(whole(book), whole(again))
        self.assertEqual(again.told(), ["year 5 2", "enter 12 3 moves fixed 2 0 9"])

    def test_each_text_reads_as_an_order(self):
        for book, _, _ in many_books(20):
            self.assertEqual([shown(read(text)) for text in book.told()], book.told())


if __name__ == "__main__":
    unittest.main()
