"""Point 11: looking through; point 25 for it."""

import contextlib
import itertools
import random
import signal
import unittest

from feastfall.laying import lay
from feastfall.looker import fault
from tests.test_laying import crowd, only_moving, plain_laying, shutters
from tests.test_ranks import MOST, WAYS, from_highest, mixed

FAR = 10 ** 13
ALLOWED = {"moves": ["stands"], "stays": ["stands", "noted"], "lapses": ["stands", "out"]}


def plain_fault(entries, shut, rows):
    """Point 11 word by word."""
    entries = from_highest(entries)
    for at, entry in enumerate(entries):
        if at == len(rows):
            return ("missing", entry[1], entry[2], -1)
        word, day = plain_question(entry, rows[at], rows[:at], shut)
        if word is not None:
            return (word, entry[1], entry[2], day)
    if len(rows) > len(entries):
        return ("more", rows[len(entries)][0], rows[len(entries)][1], rows[len(entries)][3])
    return None


def plain_question(entry, row, rows_ahead, shut):
    rank, number, year, way, own = entry
    row_number, row_year, how, day = row
    standing = {other[3] for other in rows_ahead if other[2] == "stands"}
    if row_number != number or row_year != year:
        return "other", -1
    if how not in ALLOWED[way]:
        return "how", day
    if day < own or way != "moves" and day != own:
        return "day", day
    if how == "stands" and shut.get(day, 9) < rank:
        return "shut", day
    if how == "stands" and day in standing:
        return "taken", day
    for passed in range(own, day if how == "stands" else own + 1):
        if shut.get(passed, 9) >= rank and passed not in standing:
            return "passed", passed
    return None, None


@contextlib.contextmanager
def soon(seconds=30):
    """Going through ten millions of millions of days would never end: that is a failure, too."""
    def fail(*_):
        raise AssertionError("not told soon")

    before = signal.signal(signal.SIGALRM, fail)
    signal.alarm(seconds)
    try:
        yield
    finally:
        signal.alarm(0)
        signal.signal(signal.SIGALRM, before)


class NoFault(unittest.TestCase):
    def test_no_entry_and_no_row(self):
        self.assertIsNone(fault([], {}, []))
        self.assertIsNone(fault([], {4: 0}, []))

    def test_one_entry(self):
        for way, how in (("moves", "stands"), ("stays", "stands"), ("lapses", "stands")):
            self.assertIsNone(fault([(3, 12, 4, way, 40)], {}, [(12, 4, how, 40)]))
        self.assertIsNone(fault([(3, 12, 4, "moves", 40)], {40: 0, 41: 2}, [(12, 4, "stands", 42)]))
        self.assertIsNone(fault([(3, 12, 4, "stays", 40)], {40: 2}, [(12, 4, "noted", 40)]))
        self.assertIsNone(fault([(3, 12, 4, "lapses", 40)], {40: 2}, [(12, 4, "out", 40)]))

    def test_the_laying_itself(self):
        for seed in range(60):
            chance = random.Random(seed)
            first = chance.choice((0, MOST))
            entries = crowd(chance, chance.randint(0, 60), 12, first)
            shut = shutters(chance, chance.randint(0, 30), 40, first)
            self.assertIsNone(fault(entries, shut, plain_laying(entries, shut)))
            self.assertIsNone(fault(entries[::-1], shut, lay(entries, shut)))

    def test_the_laying_of_200_entries_and_5000_shut_days(self):
        chance = random.Random(3)
        entries = crowd(chance, 200, 5000)
        for some in (entries, only_moving(entries), mixed(200)):
            for shut in ({}, shutters(chance, 5000, 5100), {day: 0 for day in range(5000)}):
                self.assertIsNone(fault(some, shut, plain_laying(some, shut)))

    def test_the_laying_of_entries_with_one_own_day(self):
        for way in WAYS:
            entries = [(1 + at % 9, at, 0, way, MOST) for at in range(200)]
            self.assertIsNone(fault(entries, {}, plain_laying(entries, {})))


class EachFault(unittest.TestCase):
    def told(self, entries, shut, rows, expected):
        self.assertEqual(fault(entries, shut, rows), expected)
        self.assertEqual(fault(entries[::-1], shut, rows), expected)
        self.assertEqual(plain_fault(entries, shut, rows), expected)

    def test_missing(self):
        entries = [(3, 12, 4, "moves", 40), (2, 70, 9, "stays", 8), (5, 1, MOST, "lapses", 8)]
        rows = plain_laying(entries, {})
        self.told(entries, {}, [], ("missing", 70, 9, -1))
        self.told(entries, {}, rows[:1], ("missing", 12, 4, -1))
        self.told(entries, {}, rows[:2], ("missing", 1, MOST, -1))

    def test_other(self):
        entries = [(2, 70, 9, "stays", 8), (3, 12, 4, "moves", 40)]
        rows = [(70, 9, "stands", 8), (12, 4, "stands", 40)]
        self.told(entries, {}, rows[::-1], ("other", 70, 9, -1))
        self.told(entries, {}, rows[1:], ("other", 70, 9, -1))
        self.told(entries, {}, [rows[0], rows[0]], ("other", 12, 4, -1))
        for name in ((12, 5), (13, 4), (4, 12), (-12, 4), (12, -4), (FAR, 4), (12, -FAR), (70, 9)):
            self.told(entries, {}, [rows[0], name + ("stands", 40)], ("other", 12, 4, -1))

    def test_how(self):
        for way, how in itertools.product(WAYS, ("stands", "noted", "out", "", "Stands", "stand", "moves", "none")):
            if how not in ALLOWED[way]:
                for day in (40, 41, 39, 0, -1, FAR, -FAR):
                    self.told([(3, 12, 4, way, 40)], {}, [(12, 4, how, day)], ("how", 12, 4, day))

    def test_each_how_that_the_way_has_is_no_fault_of_this_kind(self):
        for way in WAYS:
            for how in ALLOWED[way]:
                found = fault([(3, 12, 4, way, 40)], {40: 0}, [(12, 4, how, 40)])
                self.assertNotEqual(found and found[0], "how")

    def test_a_day_ahead_of_its_own(self):
        for way in WAYS:
            for how in ALLOWED[way]:
                for day in (39, 0, -1, -FAR):
                    self.told([(3, 12, 4, way, 40)], {}, [(12, 4, how, day)], ("day", 12, 4, day))

    def test_a_later_day_of_one_that_does_not_move(self):
        for way in ("stays", "lapses"):
            for how in ALLOWED[way]:
                for day in (41, 10 ** 6, FAR):
                    self.told([(3, 12, 4, way, 40)], {40: 0}, [(12, 4, how, day)], ("day", 12, 4, day))

    def test_shut(self):
        for bound, rank in itertools.product(range(9), range(1, 10)):
            for way in WAYS:
                expected = None if rank <= bound else ("shut", 12, 4, 40)
                self.told([(rank, 12, 4, way, 40)], {40: bound}, [(12, 4, "stands", 40)], expected)
            expected = None if rank <= bound else ("shut", 12, 4, 41)
            self.told([(rank, 12, 4, "moves", 40)], {40: 0, 41: bound}, [(12, 4, "stands", 41)], expected)

    def test_shut_is_no_fault_of_one_that_does_not_stand(self):
        self.told([(3, 12, 4, "stays", 40)], {40: 0}, [(12, 4, "noted", 40)], None)
        self.told([(3, 12, 4, "lapses", 40)], {40: 0}, [(12, 4, "out", 40)], None)

    def test_taken(self):
        high = (1, 1, 1, "moves", 40)
        for way in WAYS:
            rows = [(1, 1, "stands", 40), (12, 4, "stands", 40)]
            self.told([high, (3, 12, 4, way, 40)], {}, rows, ("taken", 12, 4, 40))
        entries = [high, (2, 2, 2, "moves", 40), (3, 12, 4, "moves", 39), (4, 5, 5, "moves", 39)]
        rows = [(1, 1, "stands", 40), (2, 2, "stands", 41), (12, 4, "stands", 39), (5, 5, "stands", 41)]
        self.told(entries, {}, rows, ("taken", 5, 5, 41))
        self.told(entries, {}, rows[:3] + [(5, 5, "stands", 39)], ("taken", 5, 5, 39))
        self.told(entries, {}, rows[:3] + [(5, 5, "stands", 42)], None)

    def test_noted_ones_and_those_that_are_out_take_no_day(self):
        for way, how in (("stays", "noted"), ("lapses", "out")):
            entries = [(2, 1, 1, way, 40), (3, 12, 4, "moves", 39), (4, 5, 5, "moves", 39)]
            rows = [(1, 1, how, 40), (12, 4, "stands", 39), (5, 5, "stands", 41)]
            self.told(entries, {40: 1}, rows, None)
            self.told(entries, {40: 1, 39: 3}, rows, None)
            self.told(entries, {40: 1, 39: 3}, rows[:2] + [(5, 5, "stands", 42)], ("passed", 5, 5, 41))

    def test_passed_by_one_that_stands(self):
        self.told([(3, 12, 4, "moves", 40)], {}, [(12, 4, "stands", 41)], ("passed", 12, 4, 40))
        self.told([(3, 12, 4, "moves", 40)], {40: 2}, [(12, 4, "stands", 42)], ("passed", 12, 4, 41))
        self.told([(3, 12, 4, "moves", 40)], {40: 3}, [(12, 4, "stands", 42)], ("passed", 12, 4, 40))
        self.told([(3, 12, 4, "moves", 0)], {1: 0}, [(12, 4, "stands", MOST)], ("passed", 12, 4, 0))

    def test_passed_by_one_that_does_not_stand(self):
        for way, how in (("stays", "noted"), ("lapses", "out")):
            entry = (3, 12, 4, way, 40)
            self.told([entry], {}, [(12, 4, how, 40)], ("passed", 12, 4, 40))
            self.told([entry], {40: 3}, [(12, 4, how, 40)], ("passed", 12, 4, 40))
            self.told([entry], {39: 0, 41: 0}, [(12, 4, how, 40)], ("passed", 12, 4, 40))
            self.told([entry], {40: 2}, [(12, 4, how, 40)], None)
            rows = [(1, 1, "stands", 40), (12, 4, how, 40)]
            self.told([entry, (1, 1, 1, "moves", 40)], {}, rows, None)

    def test_only_its_own_day_is_passed_by_one_that_does_not_stand(self):
        for way, how in (("stays", "noted"), ("lapses", "out")):
            self.told([(3, 12, 4, way, 40)], {40: 0}, [(12, 4, how, 40)], None)

    def test_the_first_that_could_be_had_is_told(self):
        entries = [(1, 1, 1, "moves", 10), (2, 2, 2, "moves", 12), (5, 12, 4, "moves", 10)]
        rows = [(1, 1, "stands", 10), (2, 2, "stands", 12)]
        shut = {11: 4, 13: 5, 14: 0}
        for day in (15, 16, 10 ** 6):
            self.told(entries, shut, rows + [(12, 4, "stands", day)], ("passed", 12, 4, 13))
        self.told(entries, shut, rows + [(12, 4, "stands", 13)], None)
        self.told(entries, {11: 4, 13: 4, 14: 0}, rows + [(12, 4, "stands", 16)], ("passed", 12, 4, 15))

    def test_more(self):
        entries = [(3, 12, 4, "moves", 40)]
        rows = [(12, 4, "stands", 40)]
        for left in ((12, 4, "stands", 40), (-FAR, FAR, "", -FAR), (0, 0, "gone", 0), (FAR, -FAR, "out", FAR)):
            expected = ("more", left[0], left[1], left[3])
            self.told(entries, {}, rows + [left], expected)
            self.told(entries, {}, rows + [left, (1, 1, "stands", 1)], expected)
            self.told([], {}, [left], expected)
            self.told([], {5: 0}, [left, rows[0]], expected)

    def test_400_rows(self):
        entries = [(3, at, 0, "moves", 0) for at in range(200)]
        rows = [(at, 0, "stands", at) for at in range(400)]
        self.told(entries, {}, rows, ("more", 200, 0, 200))
        self.told([], {}, rows, ("more", 0, 0, 0))
        self.told(entries, {}, rows[:200], None)
        self.told(entries, {}, rows[:199], ("missing", 199, 0, -1))

    def test_entries_without_rows(self):
        for entries in (mixed(1), mixed(2), mixed(200)):
            first = from_highest(entries)[0]
            self.told(entries, {}, [], ("missing", first[1], first[2], -1))


class WhichGoesFirst(unittest.TestCase):
    """One row that has all the faults of a list, from some one on."""

    def setUp(self):
        self.ahead = [(1, 1, 1, "stays", 40)]
        self.rows = [(1, 1, "stands", 40)]

    def one(self, way, row, shut):
        return fault(self.ahead + [(3, 12, 4, way, 40)], shut, self.rows + [row])

    def test_other_ahead_of_all_that_follow(self):
        self.assertEqual(self.one("stays", (12, 5, "gone", 39), {39: 0}), ("other", 12, 4, -1))
        self.assertEqual(self.one("moves", (11, 4, "noted", 0), {}), ("other", 12, 4, -1))
        self.assertEqual(self.one("moves", (1, 1, "stands", 40), {40: 1}), ("other", 12, 4, -1))

    def test_how_ahead_of_day(self):
        self.assertEqual(self.one("stays", (12, 4, "out", 39), {}), ("how", 12, 4, 39))
        self.assertEqual(self.one("lapses", (12, 4, "noted", 41), {}), ("how", 12, 4, 41))
        self.assertEqual(self.one("moves", (12, 4, "out", -3), {}), ("how", 12, 4, -3))

    def test_day_ahead_of_shut(self):
        self.assertEqual(self.one("moves", (12, 4, "stands", 39), {39: 0}), ("day", 12, 4, 39))
        self.assertEqual(self.one("stays", (12, 4, "stands", 41), {41: 0}), ("day", 12, 4, 41))

    def test_day_ahead_of_taken(self):
        self.ahead, self.rows = [(1, 1, 1, "moves", 39)], [(1, 1, "stands", 39)]
        self.assertEqual(self.one("moves", (12, 4, "stands", 39), {}), ("day", 12, 4, 39))

    def test_shut_ahead_of_taken(self):
        for way in WAYS:
            self.assertEqual(self.one(way, (12, 4, "stands", 40), {40: 1}), ("shut", 12, 4, 40))
            self.assertEqual(self.one(way, (12, 4, "stands", 40), {40: 3}), ("taken", 12, 4, 40))

    def test_shut_ahead_of_passed(self):
        self.assertEqual(self.one("moves", (12, 4, "stands", 42), {42: 1}), ("shut", 12, 4, 42))

    def test_taken_ahead_of_passed(self):
        self.ahead, self.rows = [(1, 1, 1, "stays", 41)], [(1, 1, "stands", 41)]
        self.assertEqual(self.one("moves", (12, 4, "stands", 41), {}), ("taken", 12, 4, 41))
        self.assertEqual(self.one("moves", (12, 4, "stands", 42), {}), ("passed", 12, 4, 40))

    def test_the_higher_entry_ahead_of_the_lower(self):
        entries = [(1, 1, 1, "moves", 0), (2, 2, 2, "moves", 0), (3, 3, 3, "moves", 0)]
        right = [(1, 1, "stands", 0), (2, 2, "stands", 1), (3, 3, "stands", 2)]
        wrong = [(1, 1, "stands", 9), (2, 2, "stands", -1), (3, 3, "out", 2)]
        told = [("passed", 1, 1, 0), ("day", 2, 2, -1), ("how", 3, 3, 2), ("more", 7, 7, 7)]
        for at in range(4):
            rows = right[:at] + wrong[at:] + [(7, 7, "stands", 7)]
            self.assertEqual(fault(entries, {}, rows), told[at])

    def test_a_fault_ahead_of_missing_and_more(self):
        entries = [(1, 1, 1, "moves", 0), (2, 2, 2, "moves", 0)]
        self.assertEqual(fault(entries, {}, [(1, 1, "stands", 1)]), ("passed", 1, 1, 0))
        rows = [(1, 1, "stands", 0), (2, 2, "stands", 0), (3, 3, "stands", 3)]
        self.assertEqual(fault(entries, {}, rows), ("taken", 2, 2, 0))

    def test_a_missing_row_in_the_middle_is_another_one(self):
        entries = mixed(20)
        rows = plain_laying(entries, {})
        for at in range(19):
            name = rows[at][:2]
            self.assertEqual(fault(entries, {}, rows[:at] + rows[at + 1:]), ("other",) + name + (-1,))


class FarOff(unittest.TestCase):
    def test_one_row_far_behind(self):
        with soon():
            for own in (0, 40, MOST):
                self.assertEqual(fault([(3, 12, 4, "moves", own)], {}, [(12, 4, "stands", FAR)]),
                                 ("passed", 12, 4, own))
                self.assertEqual(fault([(3, 12, 4, "moves", own)], {own: 0}, [(12, 4, "stands", FAR)]),
                                 ("passed", 12, 4, own + 1))

    def test_behind_5000_shut_days(self):
        shut = {day: 0 for day in range(5000)}
        with soon():
            self.assertEqual(fault([(1, 12, 4, "moves", 0)], shut, [(12, 4, "stands", FAR)]), ("passed", 12, 4, 5000))

    def test_the_last_of_200(self):
        entries = [(3, at, 0, "moves", 0) for at in range(200)]
        shut = {day: 2 for day in range(5000)}
        rows = plain_laying(entries, shut)
        with soon():
            self.assertEqual(fault(entries, shut, rows[:-1] + [(199, 0, "stands", FAR)]), ("passed", 199, 0, 5199))
            self.assertEqual(fault(entries, shut, [(0, 0, "stands", FAR)] + rows[1:]), ("passed", 0, 0, 5000))

    def test_far_days_of_every_kind(self):
        with soon():
            for way in WAYS:
                for how in ("stands", "noted", "out"):
                    for day in (FAR, -FAR):
                        rows = [(12, 4, how, day)]
                        expected = "how" if how not in ALLOWED[way] else "day"
                        if (way, how, day) != ("moves", "stands", FAR):
                            self.assertEqual(fault([(3, 12, 4, way, MOST)], {}, rows), (expected, 12, 4, day))

    def test_a_far_day_that_is_shut(self):
        with soon():
            self.assertEqual(fault([(3, 12, 4, "moves", 0)], {MOST: 2}, [(12, 4, "stands", MOST)]),
                             ("shut", 12, 4, MOST))


class ManyRows(unittest.TestCase):
    def spoiled(self, chance, rows, days):
        """The rows with some of them changed, put elsewhere, left out or put in."""
        rows = list(rows)
        for _ in range(chance.randint(1, 3)):
            at = chance.randrange(len(rows)) if rows else 0
            number, year, how, day = rows[at] if rows else (0, 0, "stands", 0)
            ways = [(number + chance.choice((-1, 1, FAR)), year, how, day), (number, -year, how, day),
                    (number, year, chance.choice(("stands", "noted", "out", "no")), day),
                    (number, year, how, day + chance.choice((-days, -2, -1, 1, 2, days, FAR, -FAR))),
                    (number, year, how, chance.choice([row[3] for row in rows] + [0]))]
            deed = chance.randrange(8)
            if deed < 5:
                rows[at:at + 1] = [ways[deed]]
            elif deed == 5:
                del rows[at:at + 1]
            elif deed == 6:
                rows.insert(chance.randint(0, len(rows)), (number, year, how, day))
            else:
                rows.append(ways[chance.randrange(5)])
        return rows

    def test_many_spoiled_layings(self):
        words = set()
        for seed in range(1500):
            chance = random.Random(seed)
            days = chance.choice((1, 3, 10))
            first = chance.choice((0, 5, MOST - 3))
            entries = crowd(chance, chance.randint(0, 12), days, first)
            shut = shutters(chance, chance.randint(0, 2 * days), 2 * days, first)
            rows = self.spoiled(chance, plain_laying(entries, shut), days)
            expected = plain_fault(entries, shut, rows)
            self.assertEqual(fault(entries, shut, rows), expected, (entries, shut, rows))
            words.add(expected and expected[0])
        self.assertEqual(words, {None, "missing", "other", "how", "day", "shut", "taken", "passed", "more"})

    def test_each_place_of_each_entry_of_small_ones(self):
        for ways in itertools.product(WAYS, repeat=2):
            entries = [(rank, 1, rank, way, 1) for rank, way in zip((1, 2), ways)]
            for shut in ({}, {1: 0}, {1: 1}, {2: 1}, {1: 1, 2: 0}):
                places = list(itertools.product(("stands", "noted", "out"), range(5)))
                for one, other in itertools.product(places, places):
                    rows = [(1, 1) + one, (1, 2) + other]
                    self.assertEqual(fault(entries, shut, rows), plain_fault(entries, shut, rows))

    def test_none_is_told_for_the_laying_alone(self):
        entries = [(1, 1, 0, "moves", 0), (2, 2, 0, "stays", 0), (3, 3, 0, "moves", 0)]
        places = list(itertools.product(("stands", "noted", "out"), range(4)))
        for parts in itertools.product(places, repeat=3):
            rows = [(number, 0) + place for number, place in zip((1, 2, 3), parts)]
            self.assertEqual(fault(entries, {1: 2}, rows) is None, rows == plain_laying(entries, {1: 2}))


class KindsAndLists(unittest.TestCase):
    def setUp(self):
        chance = random.Random(7)
        self.entries = crowd(chance, 60, 12)
        self.shut = shutters(chance, 20, 40)
        self.rows = plain_laying(self.entries, self.shut)

    def test_a_fault_is_a_tuple(self):
        name = self.rows[-1][:2]
        told = fault(self.entries, self.shut, self.rows[:-1] + [name + ("gone", 3)])
        self.assertIs(type(told), tuple)
        self.assertEqual([type(part) for part in told], [str, int, int, int])

    def test_what_is_handed_in_stays(self):
        spoiled = self.rows[:-1] + [self.rows[-1][:3] + (FAR,)]
        for rows in (self.rows, spoiled, self.rows[:-3], self.rows + self.rows, []):
            kept = (list(self.entries), list(self.shut.items()), list(rows))
            fault(self.entries, self.shut, rows)
            self.assertEqual((self.entries, list(self.shut.items()), rows), kept)

    def test_what_was_handed_in_may_be_changed(self):
        self.assertIsNone(fault(self.entries, self.shut, self.rows))
        row = self.rows.pop()
        self.assertEqual(fault(self.entries, self.shut, self.rows), ("missing",) + row[:2] + (-1,))
        self.rows.append(row)
        self.assertIsNone(fault(self.entries, self.shut, self.rows))
        self.shut[self.rows[0][3]] = 0
        self.assertIsNotNone(fault(self.entries, self.shut, self.rows))
        self.entries.clear()
        self.assertEqual(fault(self.entries, self.shut, self.rows), ("more",) + self.rows[0][:2] + self.rows[0][3:])


if __name__ == "__main__":
    unittest.main()
