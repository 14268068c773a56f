"""Point 22: the log; point 25 for it."""

import copy
import itertools
import random
import unittest

from feastfall.book import Book
from feastfall.errors import FeastError, NoBack, NoFeast, NoForth, NoStand, Sealed, Taken
from feastfall.yearlog import Log
from tests.test_book import PlainBook, any_order, outcome, whole
from tests.test_turning import plain_turns

ORDERS = (("year", 10, 4), ("enter", 12, 3, "moves", "fixed", 4, 0, 9), ("enter", 7, 1, "stays", "anchor", 0, 0, 9),
          ("year", 10, 5), ("shut", 4, 5, 0), ("seal", 1), ("rank", 12, 1), ("unseal", 1), ("anchor", 1, 4),
          ("rank", 7, 5), ("strike", 7), ("seal", 0))


def turns_between(befores, afters):
    return plain_turns(sorted({row[:2] for row in befores + afters}), befores, afters)


def turned_about(turns):
    return [(number, year, after, before) for number, year, before, after in turns]


class PlainLog:
    """Point 22 with all stands kept as plain books, each whole."""

    def __init__(self):
        self.stands, self.taken_back = [PlainBook()], []

    def deed(self, order):
        after = copy.deepcopy(self.stands[-1])
        told = after.deed(order)
        if isinstance(told, list):
            self.stands.append(after)
            self.taken_back = []
        return told

    def back(self):
        if len(self.stands) == 1:
            return NoBack
        self.taken_back.append(self.stands.pop())
        return turns_between(self.taken_back[-1].rows(), self.stands[-1].rows())

    def forth(self):
        if not self.taken_back:
            return NoForth
        self.stands.append(self.taken_back.pop())
        return turns_between(self.stands[-2].rows(), self.stands[-1].rows())


class ANewLog(unittest.TestCase):
    def test_its_stand_and_book(self):
        log = Log()
        self.assertEqual(log.stand(), 0)
        self.assertIsInstance(log.book(), Book)
        self.assertEqual(whole(log.book()), whole(Book()))
        self.assertEqual(log.between(0, 0), [])

    def test_it_goes_neither_back_nor_forth(self):
        log = Log()
        for _ in range(2):
            with self.assertRaises(NoBack):
                log.back()
            with self.assertRaises(NoForth):
                log.forth()
        self.assertEqual(log.stand(), 0)

    def test_two_logs_go_their_own_ways(self):
        one, other = Log(), Log()
        one.deed(("year", 10, 4))
        self.assertEqual((other.stand(), other.book().told()), (0, []))
        with self.assertRaises(NoBack):
            other.back()


class BackAndForth(unittest.TestCase):
    def setUp(self):
        self.log = Log()
        self.books = [self.log.book()]
        self.turns = []
        for order in ORDERS:
            self.turns.append(self.log.deed(order))
            self.books.append(self.log.book())

    def test_deeds_answer_as_those_of_a_book(self):
        book = Book()
        for order, turns, after in zip(ORDERS, self.turns, self.books[1:]):
            self.assertEqual(book.deed(order), turns)
            self.assertEqual(whole(book), whole(after))

    def test_stands_are_counted(self):
        log = Log()
        for at, order in enumerate(ORDERS):
            self.assertEqual(log.stand(), at)
            log.deed(order)
        self.assertEqual(log.stand(), len(ORDERS))

    def test_all_the_way_back_and_forth(self):
        for _ in range(2):
            for at in range(len(ORDERS) - 1, -1, -1):
                self.assertEqual(self.log.back(), turned_about(self.turns[at]))
                self.assertEqual(self.log.stand(), at)
                self.assertEqual(whole(self.log.book()), whole(self.books[at]))
            with self.assertRaises(NoBack):
                self.log.back()
            self.assertEqual(self.log.stand(), 0)
            for at, turns in enumerate(self.turns):
                self.assertEqual(self.log.forth(), turns)
                self.assertEqual(self.log.stand(), at + 1)
                self.assertEqual(whole(self.log.book()), whole(self.books[at + 1]))
            with self.assertRaises(NoForth):
                self.log.forth()
            self.assertEqual(self.log.stand(), len(ORDERS))

    def test_a_deed_behind_a_back_drops_what_was_taken_back(self):
        for count in range(1, len(ORDERS) + 1):
            log = Log()
            for order in ORDERS:
                log.deed(order)
            for _ in range(count):
                log.back()
            log.deed(("enter", 50, 9, "lapses", "fixed", 9, 0, 0))
            self.assertEqual(log.stand(), len(ORDERS) - count + 1)
            with self.assertRaises(NoForth):
                log.forth()
            log.back()
            self.assertEqual(whole(log.book()), whole(self.books[len(ORDERS) - count]))
            log.forth()
            self.assertEqual(log.book().told().count("enter 50 9 lapses fixed 9 0 0"), 1)
            with self.assertRaises(NoForth):
                log.forth()

    def test_the_same_deed_again_drops_as_well(self):
        self.log.back()
        self.log.back()
        self.log.deed(ORDERS[-2])
        with self.assertRaises(NoForth):
            self.log.forth()

    def test_a_refused_deed_drops_nothing(self):
        for _ in range(4):
            self.log.back()
        for order, kind in ((("strike", 99), NoFeast), (("enter", 12, 3, "moves", "fixed", 4, 0, 9), Taken)):
            ahead = whole(self.log.book())
            with self.assertRaises(kind):
                self.log.deed(order)
            self.assertEqual(self.log.stand(), len(ORDERS) - 4)
            self.assertEqual(whole(self.log.book()), ahead)
        for at in range(4):
            self.assertEqual(self.log.forth(), self.turns[len(ORDERS) - 4 + at])

    def test_a_deed_refused_for_a_seal_drops_nothing(self):
        log = Log()
        for order in (("year", 5, 0), ("enter", 1, 1, "moves", "fixed", 0, 0, 0), ("seal", 0), ("year", 5, 0)):
            log.deed(order)
        log.back()
        with self.assertRaises(Sealed):
            log.deed(("strike", 1))
        self.assertEqual(log.stand(), 3)
        self.assertEqual(log.forth(), [])
        self.assertEqual(log.book().lengths(), [5, 5])

    def test_a_deed_that_changes_nothing_makes_a_stand(self):
        nothing = (("unseal", 1), ("seal", 0), ("rank", 12, 1), ("shut", 0, 3, 9), ("anchor", 0, 4))
        for order in nothing:
            self.log.back()
            at = self.log.stand()
            self.log.deed(("seal", 0))
            self.assertEqual(self.log.deed(order), [])
            self.assertEqual(self.log.stand(), at + 2)
            with self.assertRaises(NoForth):
                self.log.forth()
            self.assertEqual(self.log.back(), [])
            self.assertEqual(self.log.stand(), at + 1)

    def test_a_deed_that_changes_nothing_drops_what_was_taken_back(self):
        self.log.back()
        self.assertEqual(self.log.deed(("unseal", 1)), [])
        with self.assertRaises(NoForth):
            self.log.forth()

    def test_seals_never_refuse_back_and_forth(self):
        log = Log()
        orders = (("year", 5, 0), ("seal", 0), ("unseal", 0), ("enter", 1, 1, "moves", "fixed", 0, 0, 0), ("seal", 0),
                  ("year", 3, 0), ("unseal", 0), ("strike", 1), ("seal", 0), ("seal", 1))
        turns = [log.deed(order) for order in orders]
        for _ in range(3):
            for expected in turns[::-1]:
                self.assertEqual(log.back(), turned_about(expected))
            for expected in turns:
                self.assertEqual(log.forth(), expected)
        with self.assertRaises(NoForth):
            log.forth()

    def test_forth_into_a_seal_and_back_out_of_it(self):
        log = Log()
        log.deed(("year", 5, 0))
        log.deed(("enter", 1, 1, "moves", "fixed", 0, 0, 0))
        log.deed(("seal", 0))
        with self.assertRaises(Sealed):
            log.deed(("strike", 1))
        self.assertEqual(log.back(), [])
        self.assertEqual(log.back(), [(1, 0, ("stands", 0), None)])
        self.assertEqual(log.forth(), [(1, 0, None, ("stands", 0))])
        log.forth()
        with self.assertRaises(Sealed):
            log.deed(("strike", 1))


class Between(unittest.TestCase):
    def setUp(self):
        self.log = Log()
        self.rows = [[]]
        for order in ORDERS:
            self.log.deed(order)
            self.rows.append(self.log.book().rows())

    def test_any_two_stands(self):
        for one, other in itertools.product(range(len(self.rows)), repeat=2):
            expected = turns_between(self.rows[one], self.rows[other])
            self.assertEqual(self.log.between(one, other), expected)
            self.assertEqual(self.log.between(other, one), turned_about(expected))

    def test_a_stand_and_itself(self):
        for at in range(len(self.rows)):
            self.assertEqual(self.log.between(at, at), [])

    def test_it_leaves_the_log_where_it_is(self):
        ahead = whole(self.log.book())
        self.log.back()
        self.log.between(0, 3)
        self.assertEqual(self.log.stand(), len(ORDERS) - 1)
        self.log.forth()
        self.assertEqual(whole(self.log.book()), ahead)

    def test_no_stand(self):
        last = len(ORDERS)
        for at in (-1, -2, last + 1, last + 2, 10 ** 12, -10 ** 12, -last):
            for one, other in ((at, 0), (0, at), (at, at), (last, at), (at, last)):
                with self.subTest(one=one, other=other), self.assertRaises(NoStand) as caught:
                    self.log.between(one, other)
                self.assertIsInstance(caught.exception, FeastError)
        self.assertEqual(self.log.stand(), last)

    def test_a_stand_that_was_taken_back_is_none(self):
        self.log.back()
        last = len(ORDERS) - 1
        for one, other in ((last + 1, last), (0, last + 1), (last + 1, last + 1)):
            with self.assertRaises(NoStand):
                self.log.between(one, other)
        self.assertEqual(self.log.between(0, last), turns_between([], self.rows[last]))
        self.log.forth()
        self.assertEqual(self.log.between(0, last + 1), turns_between([], self.rows[last + 1]))

    def test_a_stand_that_was_made_anew(self):
        self.log.back()
        self.log.back()
        self.log.deed(("enter", 50, 1, "moves", "fixed", 4, 0, 9))
        rows = self.log.book().rows()
        last = len(ORDERS) - 1
        self.assertEqual(self.log.between(last - 1, last), turns_between(self.rows[last - 1], rows))
        self.assertEqual(self.log.between(last, 0), turns_between(rows, []))

    def test_a_new_log(self):
        for one, other in ((0, 1), (1, 0), (-1, 0), (0, -1)):
            with self.assertRaises(NoStand):
                Log().between(one, other)


class ManyDeeds(unittest.TestCase):
    def test_against_a_plain_log(self):
        for seed in range(25):
            chance = random.Random(seed)
            log, plain = Log(), PlainLog()
            for _ in range(60):
                step = chance.random()
                if step < 0.6:
                    order = any_order(chance, plain.stands[-1])
                    self.assertEqual(outcome(log, order), plain.deed(order))
                else:
                    name = "back" if step < 0.83 else "forth"
                    expected = getattr(plain, name)()
                    if isinstance(expected, list):
                        self.assertEqual(getattr(log, name)(), expected)
                    else:
                        with self.assertRaises(expected):
                            getattr(log, name)()
                self.assertEqual(log.stand(), len(plain.stands) - 1)
                self.assertEqual(log.book().rows(), plain.stands[-1].rows())
                one, other = chance.randrange(len(plain.stands)), chance.randrange(len(plain.stands))
                self.assertEqual(log.between(one, other),
                                 turns_between(plain.stands[one].rows(), plain.stands[other].rows()))

    def test_many_stands(self):
        log = Log()
        log.deed(("year", 400, 0))
        log.deed(("enter", 1, 5, "moves", "fixed", 0, 0, 0))
        for day in range(300):
            self.assertEqual(log.deed(("shut", day, day, 4)), [(1, 0, ("stands", day), ("stands", day + 1))])
        self.assertEqual(log.stand(), 302)
        for day in range(299, -1, -1):
            self.assertEqual(log.back(), [(1, 0, ("stands", day + 1), ("stands", day))])
        for day in range(300):
            self.assertEqual(log.forth(), [(1, 0, ("stands", day), ("stands", day + 1))])
        self.assertEqual(log.between(2, 302), [(1, 0, ("stands", 0), ("stands", 300))])


class OwnWays(unittest.TestCase):
    """Point 25 for the log."""

    def setUp(self):
        self.log = Log()
        for order in ORDERS[:5]:
            self.log.deed(order)

    def test_its_book_goes_its_own_way(self):
        book = self.log.book()
        other = self.log.book()
        ahead = whole(book)
        for order in ORDERS[5:]:
            book.deed(order)
        self.assertNotEqual(whole(book), ahead)
        self.assertEqual(whole(other), ahead)
        self.assertEqual(whole(self.log.book()), ahead)
        self.assertEqual(self.log.stand(), 5)

    def test_the_log_goes_on_without_its_book(self):
        book = self.log.book()
        ahead = whole(book)
        for order in ORDERS[5:]:
            self.log.deed(order)
        self.log.back()
        self.assertEqual(whole(book), ahead)

    def test_a_book_that_was_told_at_a_stand_taken_back(self):
        book = self.log.book()
        ahead = whole(book)
        for _ in range(5):
            self.log.back()
        self.assertEqual(whole(book), ahead)
        book.deed(("strike", 12))
        for _ in range(5):
            self.log.forth()
        self.assertEqual(whole(self.log.book()), ahead)

    def test_a_change_of_what_is_told_changes_nothing(self):
        ahead = whole(self.log.book())
        for told in (self.log.deed(("strike", 7)), self.log.between(0, 5), self.log.back(), self.log.forth(),
                     self.log.back()):
            self.assertIs(type(told), list)
            self.assertTrue(told)
            told.reverse()
            told.clear()
        self.assertEqual(whole(self.log.book()), ahead)
        self.assertEqual(len(self.log.between(0, 5)), 4)


if __name__ == "__main__":
    unittest.main()
