"""Points 6 and 7: laying; point 25 for it."""

import itertools
import random
import unittest

from feastfall.laying import lay
from tests.test_ranks import MOST, WAYS, from_highest, mixed


def plain_laying(entries, shut):
    """Point 6 word by word, day by day, so that the laying is not checked by itself."""
    rows = []
    standing = set()
    for rank, number, year, way, own in from_highest(entries):
        day = own
        if way == "moves":
            while rank > shut.get(day, 9) or day in standing:
                day += 1
        if rank <= shut.get(day, 9) and day not in standing:
            standing.add(day)
            rows.append((number, year, "stands", day))
        else:
            rows.append((number, year, {"stays": "noted", "lapses": "out"}[way], own))
    return rows


def crowd(chance, count, days, first=0):
    """So many entries of all ranks and ways, in no order, whose own days lie among so many days; none twice."""
    names = chance.sample([(number, year) for number in range(count) for year in range(4)], count)
    return [(chance.randint(1, 9), number, year, chance.choice(WAYS), first + chance.randrange(days))
            for number, year in names]


def shutters(chance, count, days, first=0):
    """So many shut days of all bounds, among so many days."""
    return {first + day: chance.randint(0, 8) for day in chance.sample(range(days), count)}


def only_moving(entries):
    return [(rank, number, year, "moves", own) for rank, number, year, _, own in entries]


class OneEntry(unittest.TestCase):
    def test_no_entry(self):
        self.assertEqual(lay([], {}), [])
        self.assertEqual(lay([], {0: 0, 1: 8, MOST: 3}), [])

    def test_an_open_day_is_stood_on(self):
        for way in WAYS:
            for own in (0, 1, 40, MOST):
                with self.subTest(way=way, own=own):
                    self.assertEqual(lay([(5, 12, 3, way, own)], {}), [(12, 3, "stands", own)])
                    self.assertEqual(lay([(5, 12, 3, way, own)], {own + 1: 0}), [(12, 3, "stands", own)])

    def test_a_shut_day_is_given_up_as_the_way_says(self):
        for own in (0, 40, MOST):
            shut = {own: 4}
            self.assertEqual(lay([(5, 12, 3, "moves", own)], shut), [(12, 3, "stands", own + 1)])
            self.assertEqual(lay([(5, 12, 3, "stays", own)], shut), [(12, 3, "noted", own)])
            self.assertEqual(lay([(5, 12, 3, "lapses", own)], shut), [(12, 3, "out", own)])

    def test_each_bound_against_each_rank_and_way(self):
        for bound, rank in itertools.product(range(9), range(1, 10)):
            is_open = rank <= bound
            with self.subTest(bound=bound, rank=rank):
                self.assertEqual(lay([(rank, 1, 2, "moves", 7)], {7: bound}),
                                 [(1, 2, "stands", 7 if is_open else 8)])
                self.assertEqual(lay([(rank, 1, 2, "moves", 7)], {7: 0, 8: bound, 9: 0}),
                                 [(1, 2, "stands", 8 if is_open else 10)])
                self.assertEqual(lay([(rank, 1, 2, "stays", 7)], {7: bound}),
                                 [(1, 2, "stands" if is_open else "noted", 7)])
                self.assertEqual(lay([(rank, 1, 2, "lapses", 7)], {7: bound}),
                                 [(1, 2, "stands" if is_open else "out", 7)])

    def test_days_ahead_of_its_own_are_never_taken(self):
        for way, place in (("moves", ("stands", 41)), ("stays", ("noted", 40)), ("lapses", ("out", 40))):
            self.assertEqual(lay([(9, 0, 0, way, 40)], {40: 0}), [(0, 0) + place])

    def test_many_shut_days_side_by_side(self):
        for own in (0, MOST - 4999):
            shut = {own + day: 0 for day in range(5000)}
            self.assertEqual(lay([(1, 7, 7, "moves", own)], shut), [(7, 7, "stands", own + 5000)])
            self.assertEqual(lay([(1, 7, 7, "moves", own + 4999)], shut), [(7, 7, "stands", own + 5000)])
            del shut[own + 2500]
            self.assertEqual(lay([(1, 7, 7, "moves", own)], shut), [(7, 7, "stands", own + 2500)])

    def test_of_bounds_side_by_side_the_first_that_lets_it_stand(self):
        shut = {day: day for day in range(9)}
        told = [lay([(rank, 0, 0, "moves", 0)], shut)[0][3] for rank in range(1, 10)]
        self.assertEqual(told, [1, 2, 3, 4, 5, 6, 7, 8, 9])


class GivingWay(unittest.TestCase):
    def test_the_lower_of_two_gives_way(self):
        high = (2, 70, 1, "moves", 40)
        for way, place in (("moves", ("stands", 41)), ("stays", ("noted", 40)), ("lapses", ("out", 40))):
            for low in ((3, 12, 1, way, 40), (2, 71, 1, way, 40), (2, 70, 2, way, 40)):
                with self.subTest(low=low):
                    expected = [(70, 1, "stands", 40), low[1:3] + place]
                    self.assertEqual(lay([high, low], {}), expected)
                    self.assertEqual(lay([low, high], {}), expected)

    def test_the_highest_keeps_its_day_whatever_its_way(self):
        for high, low in itertools.product(WAYS, WAYS):
            rows = lay([(5, 0, 0, low, 3), (4, 0, 1, high, 3)], {})
            self.assertEqual(rows[0], (0, 1, "stands", 3))

    def test_one_that_moved_holds_the_day_it_came_to(self):
        entries = [(1, 1, 0, "stays", 4), (2, 2, 0, "moves", 4), (3, 3, 0, "stays", 5), (4, 4, 0, "lapses", 5),
                   (5, 5, 0, "moves", 5), (6, 6, 0, "moves", 3), (7, 7, 0, "moves", 3)]
        self.assertEqual(lay(entries, {}), [
            (1, 0, "stands", 4), (2, 0, "stands", 5), (3, 0, "noted", 5), (4, 0, "out", 5), (5, 0, "stands", 6),
            (6, 0, "stands", 3), (7, 0, "stands", 7)])

    def test_the_noted_and_those_that_are_out_keep_no_one_from_a_day(self):
        for way in ("stays", "lapses"):
            given_up = [(1, 1, 0, way, 4), (1, 2, 0, way, 4), (1, 3, 0, way, 4)]
            for low in WAYS:
                rows = lay(given_up + [(2, 4, 0, low, 4)], {4: 0})
                self.assertEqual([row[2] for row in rows[:3]], ["noted" if way == "stays" else "out"] * 3)
                self.assertEqual(rows[3], lay([(2, 4, 0, low, 4)], {4: 0})[0])

    def test_one_that_gave_way_leaves_its_day_to_a_lower_one(self):
        entries = [(1, 1, 0, "moves", 3), (1, 2, 0, "moves", 3), (2, 3, 0, "stays", 4), (3, 4, 0, "lapses", 4),
                   (4, 5, 0, "moves", 4)]
        self.assertEqual(lay(entries, {}), [(1, 0, "stands", 3), (2, 0, "stands", 4), (3, 0, "noted", 4),
                                            (4, 0, "out", 4), (5, 0, "stands", 5)])
        self.assertEqual(lay(entries, {4: 0}), [(1, 0, "stands", 3), (2, 0, "stands", 5), (3, 0, "noted", 4),
                                                (4, 0, "out", 4), (5, 0, "stands", 6)])

    def test_shut_and_held_days_side_by_side(self):
        entries = [(1, 1, 0, "moves", 10), (2, 2, 0, "moves", 10), (3, 3, 0, "moves", 10), (9, 4, 0, "moves", 10)]
        shut = {11: 1, 12: 0, 14: 2, 16: 8}
        self.assertEqual(lay(entries, shut), [(1, 0, "stands", 10), (2, 0, "stands", 13), (3, 0, "stands", 15),
                                              (4, 0, "stands", 17)])

    def test_a_day_shut_to_a_rank_is_had_by_another_one_that_comes_ahead(self):
        entries = [(1, 1, 0, "moves", 5), (2, 2, 0, "moves", 5), (2, 3, 0, "moves", 4), (3, 4, 0, "moves", 4)]
        self.assertEqual(lay(entries, {5: 1, 6: 2}), [(1, 0, "stands", 5), (2, 0, "stands", 6),
                                                      (3, 0, "stands", 4), (4, 0, "stands", 7)])

    def test_free_days_behind_held_ones_are_not_passed_over(self):
        entries = [(1, 1, 0, "moves", 0), (1, 2, 0, "moves", 2), (1, 3, 0, "moves", 4), (2, 4, 0, "moves", 0),
                   (2, 5, 0, "moves", 0), (3, 6, 0, "moves", 0), (4, 7, 0, "moves", 1), (5, 8, 0, "moves", 0)]
        self.assertEqual([row[3] for row in lay(entries, {})], [0, 2, 4, 1, 3, 5, 6, 7])


class ManyEntries(unittest.TestCase):
    def test_many_with_one_own_day(self):
        for own in (0, 17, MOST):
            moving = [(1 + at % 9, at, at % 7, "moves", own) for at in range(200)]
            names = [entry[1:3] for entry in from_highest(moving)]
            self.assertEqual(lay(moving, {}), [name + ("stands", own + at) for at, name in enumerate(names)])
            for way, how in (("stays", "noted"), ("lapses", "out")):
                entries = [(rank, number, year, way, own) for rank, number, year, _, own in moving]
                self.assertEqual(lay(entries, {}), [name + (how if at else "stands", own)
                                                    for at, name in enumerate(names)])

    def test_many_with_one_own_day_and_all_ways(self):
        for seed in range(4):
            chance = random.Random(seed)
            entries = crowd(chance, 200, 1, first=MOST * (seed % 2))
            for shut in ({}, {entries[0][4] + day: day % 9 for day in range(300)}):
                self.assertEqual(lay(entries, shut), plain_laying(entries, shut))

    def test_the_order_in_which_they_are_handed_in_does_not_count(self):
        for seed in range(6):
            chance = random.Random(seed)
            entries = crowd(chance, 60, 25)
            shut = shutters(chance, 15, 40)
            expected = plain_laying(entries, shut)
            for _ in range(12):
                chance.shuffle(entries)
                self.assertEqual(lay(entries, shut), expected)
            self.assertEqual(lay(entries[::-1], shut), expected)
            self.assertEqual(lay(from_highest(entries), shut), expected)

    def test_nor_does_the_order_of_the_shut_days(self):
        chance = random.Random(5)
        entries = crowd(chance, 80, 30)
        shut = shutters(chance, 30, 60)
        backwards = dict(reversed(list(shut.items())))
        self.assertNotEqual(list(backwards), list(shut))
        self.assertEqual(lay(entries, backwards), lay(entries, shut))

    def test_all_small_ones(self):
        bounds = (None, 0, 1, 2)
        for ways in itertools.product(WAYS, repeat=3):
            for owns in itertools.product((0, 1), repeat=3):
                entries = [(rank, 5, rank, way, own) for rank, way, own in zip((3, 1, 2), ways, owns)]
                for closed in itertools.product(bounds, repeat=3):
                    shut = {day: bound for day, bound in enumerate(closed) if bound is not None}
                    self.assertEqual(lay(entries, shut), plain_laying(entries, shut), (entries, shut))

    def test_many_crowds(self):
        for seed in range(150):
            chance = random.Random(seed)
            days = chance.choice((1, 3, 10, 40))
            first = chance.choice((0, 1, MOST - 20, MOST))
            entries = crowd(chance, chance.randint(1, 40), days, first)
            shut = shutters(chance, chance.randint(0, 2 * days), 2 * days, first)
            self.assertEqual(lay(entries, shut), plain_laying(entries, shut), seed)

    def test_200_entries_and_5000_shut_days(self):
        for seed in range(4):
            chance = random.Random(seed)
            entries = crowd(chance, 200, 5000)
            for shut in (shutters(chance, 5000, 5000), shutters(chance, 5000, 5200),
                         {day: (day // 25) % 9 for day in range(5000)}):
                self.assertEqual(lay(entries, shut), plain_laying(entries, shut))
                self.assertEqual(lay(only_moving(entries), shut), plain_laying(only_moving(entries), shut))

    def test_200_entries_ahead_of_5000_days_that_are_shut_to_all(self):
        entries = only_moving(mixed(200))
        entries = [entry[:4] + (at % 3,) for at, entry in enumerate(entries)]
        shut = {day: 0 for day in range(5000)}
        names = [entry[1:3] for entry in from_highest(entries)]
        self.assertEqual(lay(entries, shut), [name + ("stands", 5000 + at) for at, name in enumerate(names)])

    def test_the_largest_numbers_years_and_days(self):
        entries = mixed(200)
        shut = {entry[4]: at % 9 for at, entry in enumerate(entries) if at % 2}
        self.assertEqual(lay(entries, shut), plain_laying(entries, shut))
        lot = [(9, MOST, MOST, "moves", MOST), (9, MOST, MOST - 1, "moves", MOST), (9, MOST - 1, MOST, "stays", MOST),
               (8, MOST, 1, "moves", MOST), (9, MOST, 0, "lapses", MOST)]
        self.assertEqual(lay(lot, {MOST: 8}), [
            (MOST, 1, "stands", MOST), (MOST - 1, MOST, "noted", MOST), (MOST, 0, "out", MOST),
            (MOST, MOST - 1, "stands", MOST + 1), (MOST, MOST, "stands", MOST + 2)])

    def test_more_than_200_entries(self):
        chance = random.Random(1)
        entries = crowd(chance, 720, 300)
        shut = shutters(chance, 200, 900)
        self.assertEqual(lay(entries, shut), plain_laying(entries, shut))


class KindsAndLists(unittest.TestCase):
    def test_it_tells_a_list_of_tuples(self):
        entries = mixed(30)
        told = lay(entries, {entries[0][4]: 0})
        self.assertIs(type(told), list)
        self.assertEqual({type(row) for row in told}, {tuple})
        self.assertEqual({tuple(type(part) for part in row) for row in told}, {(int, int, str, int)})

    def test_one_row_for_each_entry(self):
        entries = mixed(200)
        told = lay(entries, {})
        self.assertEqual([row[:2] for row in told], [entry[1:3] for entry in from_highest(entries)])

    def test_what_is_handed_in_stays(self):
        chance = random.Random(9)
        entries = crowd(chance, 100, 30)
        shut = shutters(chance, 40, 60)
        kept = (list(entries), list(shut.items()))
        lay(entries, shut)
        self.assertEqual((entries, list(shut.items())), kept)

    def test_a_change_of_what_was_handed_in_changes_nothing_told(self):
        chance = random.Random(9)
        entries = crowd(chance, 100, 30)
        shut = shutters(chance, 40, 60)
        expected = plain_laying(entries, shut)
        told = lay(entries, shut)
        entries.clear()
        shut.clear()
        self.assertEqual(told, expected)

    def test_a_change_of_what_was_told_changes_nothing(self):
        entries = crowd(random.Random(9), 100, 30)
        kept = list(entries)
        shut = {3: 0}
        told = lay(entries, shut)
        told.reverse()
        del told[5:]
        self.assertEqual(entries, kept)
        self.assertEqual(shut, {3: 0})
        self.assertEqual(lay(entries, shut), plain_laying(kept, {3: 0}))

    def test_one_laying_does_not_know_of_the_one_ahead(self):
        entries = only_moving(crowd(random.Random(2), 20, 4))
        for shut in ({}, {day: 0 for day in range(30)}, {}, {2: 3}):
            self.assertEqual(lay(entries, shut), plain_laying(entries, shut))


if __name__ == "__main__":
    unittest.main()
