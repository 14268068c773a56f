"""Points 13, 14 and 15: pages, evenings, days held and waited, stretches and runs; point 25 for these functions."""

import itertools
import random
import unittest

from feastfall.pages import evening_of, held, page_of, runs, stretch, waited
from tests.test_laying import crowd, only_moving, plain_laying, shutters
from tests.test_looker import soon
from tests.test_ranks import MOST, WAYS, mixed
from tests.test_turning import plain_turns


def plain_page(rows, day):
    """Point 13 word by word."""
    standing = [row[:2] for row in rows if row[2] == "stands" and row[3] == day]
    noted = [row[:2] for row in rows if row[2] == "noted" and row[3] == day]
    noted.sort(key=lambda name: name[1])
    noted.sort(key=lambda name: name[0])
    return (standing[0] if standing else None, noted)


def plain_evening(entries, rows, day):
    """Point 14 word by word."""
    this, that = plain_page(rows, day)[0], plain_page(rows, day + 1)[0]
    if this is not None and that is not None:
        first, second = [entry[0] for name in (this, that) for entry in entries if entry[1:3] == name]
        return this if first < second else that
    return this if this is not None else that


def plain_waited(entries, rows):
    """Point 15, the days waited, word by word."""
    days = 0
    for entry, row in itertools.product(entries, rows):
        if entry[1:3] == row[:2] and row[2] == "stands":
            days += row[3] - entry[4]
    return days


def plain_stretch(turns):
    """Point 15, the stretch, word by word."""
    days = []
    for turn in turns:
        for place in turn[2:]:
            if place is not None and place[0] in ("stands", "noted"):
                days.append(place[1])
    return (sorted(days)[0], sorted(days)[-1]) if days else None


def plain_runs(entries, rows):
    """Point 15, the runs, day by day: two days side by side are of one run where some entry reaches both."""
    reached, joined = set(), set()
    for entry, row in itertools.product(entries, rows):
        if entry[1:3] == row[:2]:
            reached |= set(range(entry[4], row[3] + 1))
            joined |= set(range(entry[4], row[3]))
    firsts = [day for day in sorted(reached) if day - 1 not in joined]
    lasts = [day for day in sorted(reached) if day not in joined]
    return list(zip(firsts, lasts))


def layings(count):
    """Many layings, near and far, as (entries, shut days, rows, days to ask for)."""
    for seed in range(count):
        chance = random.Random(seed)
        days = chance.choice((1, 3, 10, 40))
        first = chance.choice((0, 1, MOST - 20, MOST))
        entries = crowd(chance, chance.randint(0, 25), days, first)
        if seed % 5 == 0:
            entries = only_moving(entries)
        shut = shutters(chance, chance.randint(0, 2 * days), 2 * days, first)
        yield entries, shut, plain_laying(entries, shut), range(max(first - 2, 0), first + days + 30)


def reaching(pairs):
    """Entries that move, with rows that let them reach from the first to the last of each pair."""
    entries = [(5, at, 0, "moves", first) for at, (first, _) in enumerate(pairs)]
    return entries, [(at, 0, "stands", last) for at, (_, last) in enumerate(pairs)]


class Page(unittest.TestCase):
    rows = [(12, 3, "stands", 40), (7, 2, "noted", 40), (7, 1, "noted", 40), (30, 0, "noted", 40), (1, 9, "noted", 40),
            (5, 5, "out", 40), (2, 2, "stands", 41), (8, 0, "out", 42), (9, 1, "noted", 43), (9, 0, "noted", 43)]

    def test_a_holder_and_none_noted(self):
        self.assertEqual(page_of(self.rows, 41), ((2, 2), []))

    def test_both(self):
        self.assertEqual(page_of(self.rows, 40), ((12, 3), [(1, 9), (7, 1), (7, 2), (30, 0)]))

    def test_noted_ones_alone(self):
        self.assertEqual(page_of(self.rows, 43), (None, [(9, 0), (9, 1)]))

    def test_neither(self):
        for day in (42, 0, 39, 44, MOST, 10 ** 13):
            self.assertEqual(page_of(self.rows, day), (None, []))
        self.assertEqual(page_of([], 40), (None, []))

    def test_those_that_are_out_are_on_no_page(self):
        self.assertEqual(page_of([(5, 5, "out", 40)], 40), (None, []))

    def test_a_holder_of_number_and_year_0_on_day_0(self):
        self.assertEqual(page_of([(0, 0, "stands", 0)], 0), ((0, 0), []))
        self.assertEqual(page_of([(0, 0, "noted", 0)], 0), (None, [(0, 0)]))

    def test_many_noted_on_one_day(self):
        for own in (0, 40, MOST):
            entries = [(1 + at % 9, at * 37 % 50 * 10 ** 9, at, "stays", own) for at in range(200)]
            rows = plain_laying(entries, {own: 0})
            self.assertEqual(page_of(rows, own), (None, sorted(entry[1:3] for entry in entries)))
            rows = plain_laying(entries, {})
            self.assertEqual(page_of(rows, own), plain_page(rows, own))
            self.assertEqual(len(page_of(rows, own)[1]), 199)

    def test_days_far_off(self):
        rows = [(MOST, MOST, "stands", MOST), (MOST, 0, "noted", MOST), (1, MOST, "stands", MOST + 1)]
        self.assertEqual(page_of(rows, MOST), ((MOST, MOST), [(MOST, 0)]))
        self.assertEqual(page_of(rows, MOST + 1), ((1, MOST), []))
        self.assertEqual(page_of(rows, MOST - 1), (None, []))

    def test_many_layings(self):
        for entries, shut, rows, days in layings(60):
            for day in days:
                self.assertEqual(page_of(rows, day), plain_page(rows, day))


class Evening(unittest.TestCase):
    def told(self, entries, shut, day, expected):
        rows = plain_laying(entries, shut)
        for handed in (entries, entries[::-1]):
            self.assertEqual(evening_of(handed, rows, day), expected)
        self.assertEqual(plain_evening(entries, rows, day), expected)

    def test_every_two_ranks(self):
        for one, other in itertools.product(range(1, 10), repeat=2):
            for day in (0, 40, MOST):
                entries = [(one, 12, 3, "stays", day), (other, 7, 4, "lapses", day + 1)]
                self.told(entries, {}, day, (12, 3) if one < other else (7, 4))

    def test_of_like_ranks_number_and_year_do_not_count(self):
        for this, that in (((1, 0), (2, 0)), ((2, 0), (1, 0)), ((1, 1), (1, 2)), ((1, 2), (1, 1))):
            self.told([(4,) + this + ("moves", 40), (4,) + that + ("moves", 41)], {}, 40, that)

    def test_one_alone(self):
        for way in WAYS:
            for day in (0, 40, MOST):
                for rank in (1, 5, 9):
                    self.told([(rank, 12, 3, way, day)], {}, day, (12, 3))
                    self.told([(rank, 12, 3, way, day + 1)], {}, day, (12, 3))

    def test_none(self):
        entries = [(1, 12, 3, "moves", 40)]
        for day in (0, 38, 41, 42, MOST, 10 ** 13):
            self.told(entries, {}, day, None)
        self.told([], {}, 0, None)
        self.told([], {}, 40, None)

    def test_number_and_year_0(self):
        self.told([(1, 0, 0, "moves", 0), (2, 1, 0, "moves", 1)], {}, 0, (0, 0))
        self.told([(2, 1, 0, "moves", 0), (1, 0, 0, "moves", 1)], {}, 0, (0, 0))

    def test_noted_ones_and_those_that_are_out_do_not_count(self):
        for way in ("stays", "lapses"):
            high = (1, 1, 1, way, 40)
            self.told([high], {40: 0}, 39, None)
            self.told([high], {40: 0}, 40, None)
            self.told([high, (9, 2, 2, "moves", 41)], {40: 0}, 40, (2, 2))
            self.told([high, (9, 2, 2, "moves", 39)], {40: 0}, 39, (2, 2))
            self.told([(1, 0, 0, "moves", 40), high, (9, 2, 2, "moves", 41)], {}, 40, (0, 0))

    def test_the_day_on_which_it_stands_counts_and_not_its_own(self):
        entries = [(1, 1, 0, "moves", 40), (2, 2, 0, "moves", 40), (3, 3, 0, "moves", 42)]
        self.told(entries, {}, 40, (1, 0))
        self.told(entries, {}, 41, (2, 0))
        self.told(entries, {}, 42, (3, 0))
        self.told(entries, {}, 39, (1, 0))
        self.told(entries, {40: 0}, 40, (1, 0))
        self.told(entries, {40: 0}, 39, None)

    def test_many_layings(self):
        for entries, shut, rows, days in layings(60):
            for day in days:
                self.assertEqual(evening_of(entries, rows, day), plain_evening(entries, rows, day))


class Held(unittest.TestCase):
    def test_none(self):
        self.assertEqual(held([]), [])
        self.assertEqual(held([(1, 1, "noted", 4), (2, 2, "out", 5)]), [])

    def test_rising_without_those_noted_or_out(self):
        rows = [(1, 0, "stands", 40), (2, 0, "stands", 3), (3, 0, "noted", 5), (4, 0, "out", 6), (5, 0, "stands", MOST),
                (6, 0, "stands", 0), (7, 0, "noted", 40), (8, 0, "stands", 12)]
        self.assertEqual(held(rows), [0, 3, 12, 40, MOST])
        self.assertEqual(held(rows[::-1]), [0, 3, 12, 40, MOST])

    def test_many_layings(self):
        for entries, shut, rows, days in layings(60):
            self.assertEqual(held(rows), sorted(row[3] for row in rows if row[2] == "stands"))

    def test_200_far_off(self):
        rows = plain_laying(mixed(200), {})
        self.assertEqual(held(rows), sorted({row[3] for row in rows if row[2] == "stands"}))


class Waited(unittest.TestCase):
    def test_none(self):
        self.assertEqual(waited([], []), 0)

    def test_on_their_own_days(self):
        for way in WAYS:
            entries = [(5, 1, 0, way, 40), (5, 1, 1, way, 0), (5, 2, 0, way, MOST)]
            self.assertEqual(waited(entries, plain_laying(entries, {})), 0)

    def test_of_those_that_went_on(self):
        entries = [(1, 1, 0, "moves", 40), (2, 1, 1, "moves", 40), (3, 2, 0, "moves", 40), (4, 2, 1, "moves", 7)]
        self.assertEqual(waited(entries, plain_laying(entries, {})), 3)
        self.assertEqual(waited(entries[::-1], plain_laying(entries, {})), 3)
        self.assertEqual(waited(entries, plain_laying(entries, {7: 0, 8: 3, 40: 1})), 5)
        self.assertEqual(waited(entries, plain_laying(entries, {7: 0, 8: 3, 40: 0})), 1 + 2 + 3 + 2)

    def test_of_like_numbers_each_year_has_its_own_day(self):
        entries = [(5, 1, 0, "moves", 10), (5, 1, 1, "moves", 30)]
        self.assertEqual(waited(entries, plain_laying(entries, {10: 0, 11: 0, 30: 0})), 3)

    def test_noted_ones_and_those_that_are_out_wait_for_nothing(self):
        entries = [(5, 1, 0, "stays", 40), (5, 2, 0, "lapses", 40), (5, 3, 0, "moves", 40)]
        self.assertEqual(waited(entries, plain_laying(entries, {40: 0, 41: 0})), 2)

    def test_200_behind_5000_shut_days(self):
        for own in (0, MOST):
            entries = [(5, at, 0, "moves", own) for at in range(200)]
            rows = plain_laying(entries, {own + day: 0 for day in range(5000)})
            self.assertEqual(waited(entries, rows), 200 * 5000 + 199 * 200 // 2)

    def test_many_layings(self):
        for entries, shut, rows, days in layings(80):
            self.assertEqual(waited(entries, rows), plain_waited(entries, rows))


class Stretch(unittest.TestCase):
    def told(self, turns, expected):
        self.assertEqual(stretch(turns), expected)
        self.assertEqual(stretch(turns[::-1]), expected)
        self.assertEqual(plain_stretch(turns), expected)

    def test_no_turns(self):
        self.told([], None)

    def test_every_two_places(self):
        places = [None, ("stands", 4), ("noted", 6), ("out", 9), ("stands", 0), ("noted", 0), ("out", 0)]
        for before, after in itertools.product(places, places):
            days = [place[1] for place in (before, after) if place is not None and place[0] != "out"]
            self.told([(12, 3, before, after)], (min(days), max(days)) if days else None)

    def test_turns_without_any_such_day(self):
        self.told([(1, 0, None, ("out", 5)), (2, 0, ("out", 7), None), (3, 0, ("out", 7), ("out", 8))], None)
        self.told([(1, 0, None, None)], None)

    def test_befores_and_afters_count(self):
        self.told([(1, 0, ("stands", 40), ("stands", 50)), (2, 0, ("noted", 3), ("stands", 45))], (3, 50))
        self.told([(1, 0, ("stands", 50), ("stands", 40)), (2, 0, ("stands", 45), ("noted", 60))], (40, 60))
        self.told([(1, 0, ("stands", 50), None), (2, 0, None, ("stands", 45))], (45, 50))

    def test_those_that_are_out_do_not_count(self):
        self.told([(1, 0, ("out", 1), ("stands", 40)), (2, 0, ("noted", 41), ("out", 99))], (40, 41))

    def test_numbers_and_years_do_not_count(self):
        self.told([(0, MOST, None, ("stands", 40))], (40, 40))
        self.told([(MOST, 0, ("noted", 40), None)], (40, 40))

    def test_days_far_off(self):
        self.told([(1, 0, ("stands", 0), None), (2, 0, None, ("noted", MOST))], (0, MOST))

    def test_many_turns(self):
        for (entries, shut, rows, _), (_, _, others, _) in zip(layings(80), itertools.islice(layings(81), 1, None)):
            names = sorted({row[:2] for row in rows + others})
            turns = plain_turns(names, rows, others)
            self.assertEqual(stretch(turns), plain_stretch(turns))


class Runs(unittest.TestCase):
    def told(self, pairs, expected):
        entries, rows = reaching(pairs)
        for handed in (rows, rows[::-1], rows[1:] + rows[:1]):
            self.assertEqual(runs(entries, handed), expected)
            self.assertEqual(runs(entries[::-1], handed), expected)

    def test_none(self):
        self.assertEqual(runs([], []), [])

    def test_one(self):
        self.told([(0, 0)], [(0, 0)])
        self.told([(4, 4)], [(4, 4)])
        self.told([(4, 9)], [(4, 9)])
        self.told([(MOST, MOST + 5)], [(MOST, MOST + 5)])

    def test_the_examples_of_the_document(self):
        self.told([(0, 3), (4, 6)], [(0, 3), (4, 6)])
        self.told([(0, 4), (4, 6)], [(0, 6)])

    def test_side_by_side_without_a_shared_day(self):
        self.told([(0, 0), (1, 1), (2, 2)], [(0, 0), (1, 1), (2, 2)])
        self.told([(4, 6), (7, 7), (0, 3)], [(0, 3), (4, 6), (7, 7)])

    def test_one_that_reaches_over_both(self):
        self.told([(0, 3), (4, 6), (3, 4)], [(0, 6)])
        self.told([(0, 3), (4, 6), (2, 5)], [(0, 6)])
        self.told([(0, 3), (4, 6), (6, 9)], [(0, 3), (4, 9)])

    def test_a_shared_day(self):
        self.told([(0, 4), (3, 6)], [(0, 6)])
        self.told([(4, 4), (4, 6)], [(4, 6)])
        self.told([(2, 4), (4, 4)], [(2, 4)])
        self.told([(4, 4), (4, 5), (5, 9), (9, 9)], [(4, 9)])

    def test_one_within_the_other(self):
        self.told([(0, 9), (3, 5)], [(0, 9)])
        self.told([(0, 9), (3, 5), (7, 12)], [(0, 12)])
        self.told([(0, 9), (3, 5), (10, 12)], [(0, 9), (10, 12)])
        self.told([(0, 9), (0, 9), (0, 3)], [(0, 9)])

    def test_with_a_gap(self):
        self.told([(8, 9), (0, 3), (5, 6)], [(0, 3), (5, 6), (8, 9)])

    def test_days_far_off_from_one_another(self):
        with soon():
            self.told([(MOST, MOST + 1), (0, 2), (MOST // 2, MOST // 2)],
                      [(0, 2), (MOST // 2, MOST // 2), (MOST, MOST + 1)])
            entries = mixed(200)
            rows = plain_laying(entries, {})
            self.assertEqual(runs(entries, rows), plain_runs(entries, rows))

    def test_noted_ones_and_those_that_are_out_reach_their_own_days(self):
        entries = [(5, 1, 0, "stays", 40), (5, 2, 0, "lapses", 42), (5, 3, 0, "moves", 43), (5, 4, 0, "stays", 43)]
        rows = plain_laying(entries, {40: 0, 42: 0})
        self.assertEqual(runs(entries, rows), [(40, 40), (42, 42), (43, 43)])
        rows = plain_laying(entries, {40: 0, 42: 0, 43: 0})
        self.assertEqual(runs(entries, rows), [(40, 40), (42, 42), (43, 44)])

    def test_200_with_one_own_day(self):
        entries = [(5, at, 0, "moves", 7) for at in range(200)]
        rows = plain_laying(entries, {day: 0 for day in range(5000)})
        self.assertEqual(runs(entries, rows), [(7, 5199)])
        self.assertEqual(runs(entries, plain_laying(entries, {})), [(7, 206)])

    def test_all_pairs_of_small_ones(self):
        spans = [(first, last) for first in range(5) for last in range(first, 5)]
        for pairs in itertools.product(spans, repeat=3):
            entries, rows = reaching(pairs)
            self.assertEqual(runs(entries, rows), plain_runs(entries, rows))

    def test_many_layings(self):
        for entries, shut, rows, days in layings(150):
            self.assertEqual(runs(entries, rows), plain_runs(entries, rows))
            random.Random(0).shuffle(rows)
            self.assertEqual(runs(entries, rows), plain_runs(entries, rows))


class KindsAndLists(unittest.TestCase):
    def setUp(self):
        chance = random.Random(12)
        self.entries = crowd(chance, 60, 12)
        self.shut = shutters(chance, 20, 40)
        self.rows = plain_laying(self.entries, self.shut)
        names = sorted(row[:2] for row in self.rows)
        self.turns = plain_turns(names, self.rows, plain_laying(self.entries, {}))
        self.kept = self.copies()
        self.day = next(row[3] for row in self.rows if row[2] == "noted")

    def copies(self):
        return [list(self.entries), list(self.rows), list(self.turns)]

    def told(self):
        return [page_of(self.rows, self.day), evening_of(self.entries, self.rows, self.day), held(self.rows),
                waited(self.entries, self.rows), stretch(self.turns), runs(self.entries, self.rows)]

    def test_what_kinds_are_told(self):
        told = self.told()
        self.assertEqual([type(part) for part in told], [tuple, tuple, list, int, tuple, list])
        self.assertEqual((len(told[0]), type(told[0][0]), type(told[0][1])), (2, tuple, list))
        self.assertEqual({type(name) for name in told[0][1]}, {tuple})
        self.assertEqual({type(day) for day in told[2]}, {int})
        self.assertEqual({tuple(type(part) for part in run) for run in told[5]}, {(int, int)})
        self.assertEqual({type(run) for run in told[5]}, {tuple})

    def test_what_is_handed_in_stays(self):
        self.told()
        self.assertEqual(self.copies(), self.kept)

    def test_a_change_of_what_was_handed_in_changes_nothing_told(self):
        expected = self.told()
        told = self.told()
        for part in (self.entries, self.rows, self.turns):
            part.clear()
        self.assertEqual(told, expected)

    def test_a_change_of_what_was_told_changes_nothing(self):
        expected = self.told()
        told = self.told()
        for part in (told[0][1], told[2], told[5]):
            self.assertTrue(part)
            part.reverse()
            part.append(None)
        self.assertEqual(self.copies(), self.kept)
        self.assertEqual(self.told(), expected)


if __name__ == "__main__":
    unittest.main()
