"""Point 12: the reasons of an entry; NoFeast of point 19 as far as it belongs here; point 25 for this function."""

import itertools
import random
import unittest

from feastfall.errors import FeastError, NoFeast
from feastfall.reasons import reasons_of
from tests.test_laying import crowd, only_moving, plain_laying, shutters
from tests.test_looker import soon
from tests.test_ranks import MOST, WAYS, from_highest, mixed


def plain_reasons(entries, shut, number, year):
    """Point 12 word by word, with the days passed over as point 11 tells them."""
    rows = plain_laying(entries, shut)
    rank, own = [(entry[0], entry[4]) for entry in entries if entry[1:3] == (number, year)][0]
    how, stood = [row[2:] for row in rows if row[:2] == (number, year)][0]
    reasons = []
    day = own
    while day < stood if how == "stands" else day == own:
        if shut.get(day, 9) < rank:
            reasons.append((day, "shut", shut[day]))
        else:
            name, = [row[:2] for row in rows if row[2:] == ("stands", day)]
            reasons.append((day, "held") + name)
        day += 1
    return reasons


class NothingPassedOver(unittest.TestCase):
    def test_one_entry_on_its_own_day(self):
        for way in WAYS:
            for own in (0, 40, MOST):
                for shut in ({}, {own: 3}, {own: 8}, {own + 1: 0}):
                    self.assertEqual(reasons_of([(3, 12, 4, way, own)], shut, 12, 4), [])

    def test_the_highest_of_many(self):
        for seed in range(20):
            entries = crowd(random.Random(seed), 30, 1)
            highest = from_highest(entries)[0]
            self.assertEqual(reasons_of(entries, {}, highest[1], highest[2]), [])

    def test_a_lower_one_on_the_same_day_keeps_nobody(self):
        entries = [(3, 12, 4, "moves", 40), (4, 1, 1, "moves", 40), (9, 2, 2, "stays", 40)]
        self.assertEqual(reasons_of(entries, {}, 12, 4), [])

    def test_a_noted_one_and_one_that_is_out_keep_nobody(self):
        entries = [(2, 1, 1, "moves", 39), (3, 2, 2, "stays", 39), (4, 3, 3, "lapses", 39), (9, 12, 4, "moves", 40)]
        self.assertEqual(reasons_of(entries, {}, 12, 4), [])


class OneThatMoves(unittest.TestCase):
    def test_over_shut_days(self):
        for own in (0, 40, MOST):
            shut = {own: 2, own + 1: 0, own + 2: 1, own + 3: 3, own + 4: 0}
            self.assertEqual(reasons_of([(3, 12, 4, "moves", own)], shut, 12, 4),
                             [(own, "shut", 2), (own + 1, "shut", 0), (own + 2, "shut", 1)])

    def test_each_bound_against_each_rank(self):
        for bound, rank in itertools.product(range(9), range(1, 10)):
            expected = [] if rank <= bound else [(7, "shut", bound)]
            self.assertEqual(reasons_of([(rank, 12, 4, "moves", 7)], {7: bound}, 12, 4), expected)

    def test_over_held_days(self):
        entries = [(1, 1, 9, "stays", 41), (2, 2, 8, "moves", 40), (2, 3, 7, "moves", 40), (3, 12, 4, "moves", 40),
                   (4, 5, 5, "moves", 40)]
        self.assertEqual(reasons_of(entries, {}, 12, 4),
                         [(40, "held", 2, 8), (41, "held", 1, 9), (42, "held", 3, 7)])
        self.assertEqual(reasons_of(entries, {}, 3, 7), [(40, "held", 2, 8), (41, "held", 1, 9)])
        self.assertEqual(reasons_of(entries, {}, 5, 5)[-1], (43, "held", 12, 4))

    def test_over_shut_and_held_days_and_those_that_are_both(self):
        entries = [(1, 1, 9, "stays", 41), (1, 2, 8, "stays", 43), (5, 12, 4, "moves", 40)]
        shut = {40: 4, 41: 1, 42: 0, 43: 5, 44: 3}
        self.assertEqual(reasons_of(entries, shut, 12, 4), [
            (40, "shut", 4), (41, "shut", 1), (42, "shut", 0), (43, "held", 2, 8), (44, "shut", 3)])

    def test_a_day_that_is_shut_but_not_to_this_rank_and_held(self):
        entries = [(1, 1, 9, "stays", 40), (5, 12, 4, "moves", 40)]
        for bound in range(9):
            expected = (40, "shut", bound) if bound < 5 else (40, "held", 1, 9)
            if bound > 0:
                self.assertEqual(reasons_of(entries, {40: bound}, 12, 4), [expected])

    def test_a_holder_of_the_same_number_and_another_year(self):
        entries = [(5, 12, 3, "moves", 40), (5, 12, 4, "moves", 40), (5, 12, 5, "moves", 39)]
        self.assertEqual(reasons_of(entries, {}, 12, 4), [(40, "held", 12, 3)])
        self.assertEqual(reasons_of(entries, {39: 0}, 12, 5), [
            (39, "shut", 0), (40, "held", 12, 3), (41, "held", 12, 4)])

    def test_days_held_from_afar(self):
        entries = [(1, 1, 0, "moves", 38), (1, 2, 0, "moves", 38), (1, 3, 0, "moves", 38), (2, 12, 4, "moves", 40)]
        self.assertEqual(reasons_of(entries, {}, 12, 4), [(40, "held", 3, 0)])


class OneThatDoesNotMove(unittest.TestCase):
    def test_its_own_day_is_shut_to_it(self):
        for way, own in itertools.product(("stays", "lapses"), (0, 40, MOST)):
            for bound, rank in itertools.product(range(9), range(1, 10)):
                expected = [] if rank <= bound else [(own, "shut", bound)]
                shut = {own: bound, own + 1: 0}
                self.assertEqual(reasons_of([(rank, 12, 4, way, own)], shut, 12, 4), expected)

    def test_its_own_day_is_held(self):
        for way, high in itertools.product(("stays", "lapses"), WAYS):
            entries = [(2, 1, 9, high, 40), (5, 12, 4, way, 40), (1, 3, 3, "moves", 41)]
            self.assertEqual(reasons_of(entries, {}, 12, 4), [(40, "held", 1, 9)])
            self.assertEqual(reasons_of(entries, {40: 7}, 12, 4), [(40, "held", 1, 9)])

    def test_its_own_day_is_both(self):
        for way in ("stays", "lapses"):
            entries = [(2, 1, 9, "stays", 40), (5, 12, 4, way, 40)]
            self.assertEqual(reasons_of(entries, {40: 4}, 12, 4), [(40, "shut", 4)])


class ManyEntries(unittest.TestCase):
    def told(self, entries, shut, some=None):
        for entry in entries if some is None else some:
            number, year = entry[1:3]
            self.assertEqual(reasons_of(entries, shut, number, year), plain_reasons(entries, shut, number, year))

    def test_many_crowds(self):
        sorts = set()
        for seed in range(120):
            chance = random.Random(seed)
            days = chance.choice((1, 3, 10))
            first = chance.choice((0, 1, MOST - 20, MOST))
            entries = crowd(chance, chance.randint(1, 20), days, first)
            shut = shutters(chance, chance.randint(0, 2 * days), 2 * days, first)
            self.told(entries, shut)
            self.told(only_moving(entries), shut)
            sorts |= {reason[1] for entry in entries for reason in reasons_of(entries, shut, *entry[1:3])}
        self.assertEqual(sorts, {"shut", "held"})

    def test_all_small_ones(self):
        for ways in itertools.product(WAYS, repeat=3):
            for owns in itertools.product((0, 1), repeat=3):
                entries = [(rank, 5, rank, way, own) for rank, way, own in zip((3, 1, 2), ways, owns)]
                for closed in itertools.product((None, 0, 1, 2), repeat=2):
                    self.told(entries, {day: bound for day, bound in enumerate(closed) if bound is not None})

    def test_200_with_one_own_day(self):
        for own in (0, 17, MOST):
            entries = [(1 + at % 9, at, at % 7, "moves", own) for at in range(200)]
            names = [entry[1:3] for entry in from_highest(entries)]
            for at in (0, 1, 100, 199):
                self.assertEqual(reasons_of(entries, {}, *names[at]),
                                 [(own + day, "held") + names[day] for day in range(at)])
            self.told(entries, {own + day: day % 9 for day in range(0, 300, 3)}, entries[::17])

    def test_5000_shut_days_side_by_side(self):
        for own in (0, MOST - 4999):
            shut = {own + day: day % 3 for day in range(5000)}
            entries = [(5, at, 0, "moves", own) for at in range(200)]
            told = reasons_of(entries, shut, 199, 0)
            self.assertEqual(told[:5000], [(own + day, "shut", day % 3) for day in range(5000)])
            self.assertEqual(told[5000:], [(own + 5000 + at, "held", at, 0) for at in range(199)])

    def test_days_far_off_from_one_another(self):
        entries = mixed(200)
        shut = {entry[4]: at % 9 for at, entry in enumerate(entries) if at % 2}
        with soon():
            self.told(entries, shut, entries[::5])

    def test_more_than_200_entries(self):
        chance = random.Random(6)
        entries = crowd(chance, 720, 300)
        self.told(entries, shutters(chance, 200, 900), chance.sample(entries, 12))

    def test_the_order_in_which_they_are_handed_in_does_not_count(self):
        chance = random.Random(2)
        entries = crowd(chance, 40, 10)
        shut = shutters(chance, 15, 30)
        low = from_highest(only_moving(entries))[-1]
        for handed in (entries, entries[::-1], from_highest(entries)):
            self.assertEqual(reasons_of(only_moving(handed), shut, *low[1:3]),
                             plain_reasons(only_moving(entries), shut, *low[1:3]))


class NoSuchEntry(unittest.TestCase):
    def refused(self, entries, number, year):
        with self.subTest(number=number, year=year), self.assertRaises(NoFeast) as caught:
            reasons_of(entries, {40: 0}, number, year)
        self.assertIsInstance(caught.exception, FeastError)

    def test_none_at_all(self):
        self.refused([], 0, 0)
        self.refused([], 12, 4)

    def test_neither_number_nor_year(self):
        self.refused([(3, 12, 4, "moves", 40)], 13, 5)
        self.refused([(3, 12, 4, "moves", 40)], MOST, MOST)

    def test_the_number_alone_or_the_year_alone_is_there(self):
        entries = [(3, 12, 4, "moves", 40), (3, 13, 5, "stays", 40), (3, 0, MOST, "lapses", 40)]
        for number, year in ((12, 5), (13, 4), (12, 0), (0, 4), (12, MOST), (0, 0), (4, 12), (-12, 4), (12, -4)):
            self.refused(entries, number, year)

    def test_rank_and_own_day_are_no_names(self):
        self.refused([(3, 12, 4, "moves", 40)], 3, 12)
        self.refused([(3, 12, 4, "moves", 40)], 3, 40)


class KindsAndLists(unittest.TestCase):
    def setUp(self):
        chance = random.Random(13)
        self.entries = only_moving(crowd(chance, 60, 12))
        self.shut = shutters(chance, 20, 40)
        self.name = from_highest(self.entries)[-1][1:3]
        self.kept = (list(self.entries), dict(self.shut))

    def test_it_tells_a_list_of_tuples(self):
        told = reasons_of(self.entries, self.shut, *self.name)
        self.assertIs(type(told), list)
        self.assertEqual({tuple(type(part) for part in reason) for reason in told}, {(int, str, int),
                                                                                    (int, str, int, int)})
        self.assertEqual({type(reason) for reason in told}, {tuple})
        self.assertEqual([reason[0] for reason in told], sorted({reason[0] for reason in told}))

    def test_what_is_handed_in_stays(self):
        reasons_of(self.entries, self.shut, *self.name)
        with self.assertRaises(NoFeast):
            reasons_of(self.entries, self.shut, 1000, 0)
        self.assertEqual((self.entries, self.shut), self.kept)
        self.assertEqual(list(self.shut), list(self.kept[1]))

    def test_a_change_of_what_was_handed_in_changes_nothing_told(self):
        told = reasons_of(self.entries, self.shut, *self.name)
        self.entries.clear()
        self.shut.clear()
        self.assertEqual(told, plain_reasons(*self.kept, *self.name))

    def test_a_change_of_what_was_told_changes_nothing(self):
        told = reasons_of(self.entries, self.shut, *self.name)
        told.reverse()
        del told[2:]
        self.assertEqual((self.entries, self.shut), self.kept)
        self.assertEqual(reasons_of(self.entries, self.shut, *self.name), plain_reasons(*self.kept, *self.name))


if __name__ == "__main__":
    unittest.main()
