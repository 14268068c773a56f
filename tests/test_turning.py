"""Points 8, 9 and 10: turns; Taken and NoFeast of point 19 as far as they belong here; point 25 for these functions."""

import itertools
import random
import unittest

from feastfall.errors import FeastError, NoFeast, Taken
from feastfall.turning import put_in, take_out, turned
from tests.test_laying import crowd, plain_laying, shutters
from tests.test_ranks import MOST, WAYS, from_highest, mixed


def place_in(rows, name):
    """The place of an entry in a laying, or None."""
    found = [row[2:] for row in rows if row[:2] == name]
    return found[0] if found else None


def plain_turns(names, befores, afters):
    """Point 8 word by word, for these entries in this order."""
    places = [(name, place_in(befores, name), place_in(afters, name)) for name in names]
    return [name + (before, after) for name, before, after in places if before != after]


def plain_change(entries, others, shut):
    """Point 9: the laying of the others, and the turns from that of all or to it, from the highest down."""
    names = [entry[1:3] for entry in from_highest(entries)]
    whole, part = plain_laying(entries, shut), plain_laying(others, shut)
    return (whole, plain_turns(names, part, whole)), (part, plain_turns(names, whole, part))


def crowds(count):
    """Many cases of point 9: entries, one of them, the others, shut days."""
    for seed in range(count):
        chance = random.Random(seed)
        days = chance.choice((1, 3, 10, 40))
        first = chance.choice((0, 1, MOST - 20, MOST))
        entries = crowd(chance, chance.randint(1, 40), days, first)
        one = chance.choice(entries)
        others = [entry for entry in entries if entry != one]
        yield entries, one, others, shutters(chance, chance.randint(0, 2 * days), 2 * days, first)


class PutIn(unittest.TestCase):
    def test_beside_none(self):
        for way in WAYS:
            self.assertEqual(put_in([], {}, (3, 12, 4, way, 40)),
                             ([(12, 4, "stands", 40)], [(12, 4, None, ("stands", 40))]))
        self.assertEqual(put_in([], {40: 2}, (3, 12, 4, "moves", 40)),
                         ([(12, 4, "stands", 41)], [(12, 4, None, ("stands", 41))]))
        self.assertEqual(put_in([], {40: 2}, (3, 12, 4, "stays", 40)),
                         ([(12, 4, "noted", 40)], [(12, 4, None, ("noted", 40))]))
        self.assertEqual(put_in([], {40: 2}, (3, 12, 4, "lapses", 40)),
                         ([(12, 4, "out", 40)], [(12, 4, None, ("out", 40))]))

    def test_the_lower_ones_turn_and_the_higher_do_not(self):
        entries = [(5, 9, 0, "moves", 4), (4, 8, 0, "lapses", 4), (6, 7, 0, "stays", 5), (1, 6, 0, "moves", 3),
                   (9, 5, 0, "moves", 3), (9, 4, 0, "moves", 30)]
        self.assertEqual(put_in(entries, {}, (2, 1, 0, "moves", 3)), (
            [(6, 0, "stands", 3), (1, 0, "stands", 4), (8, 0, "out", 4), (9, 0, "stands", 5), (7, 0, "noted", 5),
             (4, 0, "stands", 30), (5, 0, "stands", 6)],
            [(1, 0, None, ("stands", 4)), (8, 0, ("stands", 4), ("out", 4))]))
        self.assertEqual(put_in(entries, {}, (4, 0, 0, "stays", 5))[1], [
            (0, 0, None, ("stands", 5)), (9, 0, ("stands", 5), ("stands", 6)), (5, 0, ("stands", 6), ("stands", 7))])

    def test_turns_go_from_the_highest_down_and_not_by_number(self):
        entries = [(2, 30, 0, "moves", 0), (3, 20, 0, "moves", 0), (4, 10, 0, "moves", 0)]
        self.assertEqual(put_in(entries, {}, (1, 40, 0, "moves", 0))[1], [
            (40, 0, None, ("stands", 0)), (30, 0, ("stands", 0), ("stands", 1)), (20, 0, ("stands", 1), ("stands", 2)),
            (10, 0, ("stands", 2), ("stands", 3))])

    def test_one_that_does_not_come_to_stand_turns_alone(self):
        entries = [(2, 30, 0, "moves", 0), (8, 20, 0, "moves", 0)]
        self.assertEqual(put_in(entries, {}, (5, 40, 0, "stays", 0))[1], [(40, 0, None, ("noted", 0))])
        self.assertEqual(put_in(entries, {}, (5, 40, 0, "lapses", 0))[1], [(40, 0, None, ("out", 0))])

    def test_the_lowest_turns_alone(self):
        entries = mixed(100)
        self.assertEqual(len(put_in(entries, {}, (9, MOST, MOST, "moves", 0))[1]), 1)

    def test_many_crowds(self):
        for entries, one, others, shut in crowds(150):
            told = put_in(others, shut, one)
            self.assertEqual(told, plain_change(entries, others, shut)[0])
            self.assertEqual(told[1][0][:3], one[1:3] + (None,))
            self.assertNotIn(None, [turn[3] for turn in told[1]])

    def test_each_one_of_many_with_one_own_day(self):
        entries = crowd(random.Random(3), 60, 1, first=7)
        for shut in ({}, {day: day % 9 for day in range(80)}):
            for one in entries:
                others = [entry for entry in entries if entry != one]
                self.assertEqual(put_in(others, shut, one), plain_change(entries, others, shut)[0])

    def test_the_200th_and_the_201st(self):
        entries = [(5, at, 0, "moves", MOST) for at in range(200)]
        for others in (entries[:-1], entries):
            laying, turns = put_in(others, {}, (4, 3, 9, "moves", MOST))
            self.assertEqual(len(laying), len(others) + 1)
            self.assertEqual(turns[0], (3, 9, None, ("stands", MOST)))
            self.assertEqual(turns[1:], [(at, 0, ("stands", MOST + at), ("stands", MOST + at + 1))
                                         for at in range(len(others))])

    def test_behind_5000_shut_days(self):
        shut = {day: 0 for day in range(5000)}
        entries = [(5, at, 0, "moves", at) for at in range(199)]
        laying, turns = put_in(entries, shut, (1, 3, 9, "moves", 0))
        self.assertEqual(laying, plain_laying(entries + [(1, 3, 9, "moves", 0)], shut))
        self.assertEqual(turns[0], (3, 9, None, ("stands", 5000)))
        self.assertEqual(turns[-1], (198, 0, ("stands", 5198), ("stands", 5199)))

    def test_taken(self):
        entries = [(3, 12, 4, "moves", 40), (2, MOST, MOST, "stays", 7), (2, 0, 0, "lapses", 7)]
        for name in ((12, 4), (MOST, MOST), (0, 0)):
            for rank, way, own in itertools.product((1, 2, 3, 9), WAYS, (0, 7, 40, MOST)):
                with self.subTest(name=name, rank=rank), self.assertRaises(Taken) as caught:
                    put_in(entries, {}, (rank,) + name + (way, own))
                self.assertIsInstance(caught.exception, FeastError)

    def test_what_is_out_or_noted_is_taken_as_well(self):
        entries = [(1, 1, 1, "stays", 4), (2, 2, 2, "lapses", 4), (3, 3, 3, "stays", 4)]
        for name in ((2, 2), (3, 3)):
            with self.assertRaises(Taken):
                put_in(entries, {4: 0}, (5,) + name + ("moves", 0))

    def test_not_taken_is_the_same_number_with_another_year(self):
        entries = [(3, 12, 4, "moves", 40), (3, 13, 5, "moves", 40)]
        for name in ((12, 5), (13, 4), (12, 0), (0, 4), (4, 12), (12, MOST)):
            laying, turns = put_in(entries, {}, (9,) + name + ("moves", 40))
            self.assertEqual(laying[2], name + ("stands", 42))
            self.assertEqual(turns, [name + (None, ("stands", 42))])


class TakeOut(unittest.TestCase):
    def test_the_only_one(self):
        for way in WAYS:
            self.assertEqual(take_out([(3, 12, 4, way, 40)], {}, 12, 4), ([], [(12, 4, ("stands", 40), None)]))
        self.assertEqual(take_out([(3, 12, 4, "moves", 40)], {40: 2}, 12, 4), ([], [(12, 4, ("stands", 41), None)]))
        self.assertEqual(take_out([(3, 12, 4, "stays", 40)], {40: 2}, 12, 4), ([], [(12, 4, ("noted", 40), None)]))
        self.assertEqual(take_out([(3, 12, 4, "lapses", 40)], {40: 2}, 12, 4), ([], [(12, 4, ("out", 40), None)]))

    def test_the_lower_ones_come_back(self):
        entries = [(1, 40, 0, "moves", 0), (2, 30, 0, "stays", 0), (3, 20, 0, "moves", 0), (4, 10, 0, "lapses", 1),
                   (5, 5, 0, "moves", 1)]
        self.assertEqual(take_out(entries, {}, 40, 0), (
            [(30, 0, "stands", 0), (20, 0, "stands", 1), (10, 0, "out", 1), (5, 0, "stands", 2)],
            [(40, 0, ("stands", 0), None), (30, 0, ("noted", 0), ("stands", 0))]))
        self.assertEqual(take_out(entries, {}, 20, 0), (
            [(40, 0, "stands", 0), (30, 0, "noted", 0), (10, 0, "stands", 1), (5, 0, "stands", 2)],
            [(20, 0, ("stands", 1), None), (10, 0, ("out", 1), ("stands", 1))]))

    def test_turns_go_from_the_highest_down_and_not_by_number(self):
        entries = [(4, 10, 0, "moves", 0), (2, 30, 0, "moves", 0), (1, 40, 0, "moves", 0), (3, 20, 0, "moves", 0)]
        self.assertEqual(take_out(entries, {}, 40, 0)[1], [
            (40, 0, ("stands", 0), None), (30, 0, ("stands", 1), ("stands", 0)), (20, 0, ("stands", 2), ("stands", 1)),
            (10, 0, ("stands", 3), ("stands", 2))])

    def test_one_that_did_not_stand_turns_alone(self):
        entries = [(1, 40, 0, "moves", 0), (2, 30, 0, "stays", 0), (3, 20, 0, "lapses", 0), (4, 10, 0, "moves", 0)]
        self.assertEqual(take_out(entries, {}, 30, 0)[1], [(30, 0, ("noted", 0), None)])
        self.assertEqual(take_out(entries, {}, 20, 0)[1], [(20, 0, ("out", 0), None)])

    def test_the_same_number_of_another_year_remains(self):
        entries = [(3, 12, 4, "moves", 40), (3, 12, 5, "moves", 40), (3, 13, 4, "moves", 40)]
        self.assertEqual(take_out(entries, {}, 12, 4), (
            [(12, 5, "stands", 40), (13, 4, "stands", 41)],
            [(12, 4, ("stands", 40), None), (12, 5, ("stands", 41), ("stands", 40)),
             (13, 4, ("stands", 42), ("stands", 41))]))

    def test_many_crowds(self):
        for entries, one, others, shut in crowds(150):
            told = take_out(entries, shut, one[1], one[2])
            self.assertEqual(told, plain_change(entries, others, shut)[1])
            self.assertEqual(told[1][0][:2] + told[1][0][3:], one[1:3] + (None,))
            self.assertNotIn(None, [turn[2] for turn in told[1]])

    def test_each_one_of_many_with_one_own_day(self):
        entries = crowd(random.Random(4), 60, 1, first=7)
        for shut in ({}, {day: day % 9 for day in range(80)}):
            for one in entries:
                others = [entry for entry in entries if entry != one]
                self.assertEqual(take_out(entries, shut, one[1], one[2]), plain_change(entries, others, shut)[1])

    def test_the_first_of_200_with_the_largest_parts(self):
        entries = [(9, MOST, MOST - at, "moves", MOST) for at in range(200)]
        laying, turns = take_out(entries, {}, MOST, MOST - 199)
        self.assertEqual(laying, [(MOST, MOST - 198 + at, "stands", MOST + at) for at in range(199)])
        self.assertEqual(turns[0], (MOST, MOST - 199, ("stands", MOST), None))
        self.assertEqual(turns[-1], (MOST, MOST, ("stands", MOST + 199), ("stands", MOST + 198)))
        self.assertEqual(len(turns), 200)

    def test_it_leads_back_to_the_laying_ahead(self):
        for entries, one, others, shut in crowds(60):
            laying, turns = put_in(others, shut, one)
            back, returns = take_out(others + [one], shut, one[1], one[2])
            self.assertEqual(back, plain_laying(others, shut))
            self.assertEqual(returns, [(number, year, after, before) for number, year, before, after in turns])

    def test_no_feast(self):
        entries = [(3, 12, 4, "moves", 40), (3, 13, 5, "moves", 40)]
        for name in ((12, 5), (13, 4), (4, 12), (0, 0), (3, 40), (MOST, MOST)):
            with self.subTest(name=name), self.assertRaises(NoFeast) as caught:
                take_out(entries, {}, name[0], name[1])
            self.assertIsInstance(caught.exception, FeastError)
        with self.assertRaises(NoFeast):
            take_out([], {40: 3}, 12, 4)

    def test_one_that_went_is_not_there_again(self):
        entries = [(3, 12, 4, "moves", 40), (3, 13, 5, "moves", 40)]
        take_out(entries, {}, 12, 4)
        with self.assertRaises(NoFeast):
            take_out(entries[1:], {}, 12, 4)


class Turned(unittest.TestCase):
    def test_none(self):
        self.assertEqual(turned([], []), [])

    def test_the_same_laying_twice(self):
        rows = plain_laying(mixed(200), {})
        self.assertEqual(turned(rows, rows), [])
        self.assertEqual(turned(rows, list(rows)), [])

    def test_entries_of_the_one_alone(self):
        self.assertEqual(turned([(12, 3, "stands", 40), (2, 0, "out", 5), (7, 1, "noted", 0)], []), [
            (2, 0, ("out", 5), None), (7, 1, ("noted", 0), None), (12, 3, ("stands", 40), None)])

    def test_entries_of_the_other_alone(self):
        self.assertEqual(turned([], [(12, 3, "stands", 40), (2, 0, "out", 5), (7, 1, "noted", 0)]), [
            (2, 0, None, ("out", 5)), (7, 1, None, ("noted", 0)), (12, 3, None, ("stands", 40))])

    def test_entries_of_both(self):
        befores = [(5, 0, "stands", 1), (1, 0, "stands", 2), (4, 0, "stands", 3), (3, 0, "noted", 3)]
        afters = [(3, 0, "stands", 3), (5, 0, "stands", 1), (1, 0, "noted", 2), (4, 0, "stands", 4)]
        self.assertEqual(turned(befores, afters), [
            (1, 0, ("stands", 2), ("noted", 2)), (3, 0, ("noted", 3), ("stands", 3)),
            (4, 0, ("stands", 3), ("stands", 4))])

    def test_some_of_each(self):
        befores = [(9, 0, "stands", 1), (8, 0, "out", 1), (2, 0, "stands", 2)]
        afters = [(8, 0, "stands", 1), (2, 0, "stands", 2), (5, 0, "stands", 9)]
        self.assertEqual(turned(befores, afters), [
            (5, 0, None, ("stands", 9)), (8, 0, ("out", 1), ("stands", 1)), (9, 0, ("stands", 1), None)])

    def test_by_rising_number_then_by_rising_year(self):
        names = [(10, 2), (2, 10), (2, 9), (10, 0), (MOST, 0), (0, MOST), (0, MOST - 1), (MOST, 11), (MOST, 2), (9, 5)]
        rising = [(0, MOST - 1), (0, MOST), (2, 9), (2, 10), (9, 5), (10, 0), (10, 2), (MOST, 0), (MOST, 2),
                  (MOST, 11)]
        rows = [name + ("stands", at) for at, name in enumerate(names)]
        later = [name + ("stands", at + 1) for at, name in enumerate(names)]
        for befores, afters in ((rows, []), ([], rows), (rows, later), (rows[:4], later[6:]), (rows[5:], later[:8])):
            met = [name for name in rising if place_in(befores, name) != place_in(afters, name)]
            self.assertEqual([turn[:2] for turn in turned(befores, afters)], met)

    def test_a_year_of_one_number_is_not_that_of_another(self):
        self.assertEqual(turned([(1, 2, "stands", 3)], [(2, 1, "stands", 3)]), [
            (1, 2, ("stands", 3), None), (2, 1, None, ("stands", 3))])

    def test_each_way_to_turn(self):
        places = [("stands", 4), ("stands", 5), ("noted", 4), ("noted", 5), ("out", 4), ("out", 5)]
        for before, after in itertools.product(places, places):
            expected = [] if before == after else [(3, 1, before, after)]
            self.assertEqual(turned([(3, 1) + before], [(3, 1) + after]), expected)

    def test_many_layings(self):
        for seed in range(100):
            chance = random.Random(seed)
            pool = crowd(chance, 60, 12)
            layings = []
            for _ in range(2):
                entries = [(chance.choice((rank, 5)), number, year, way, own)
                           for rank, number, year, way, own in chance.sample(pool, chance.randint(0, 60))]
                layings.append(plain_laying(entries, shutters(chance, chance.randint(0, 20), 30)))
            names = sorted({row[:2] for laying in layings for row in laying})
            self.assertEqual(turned(layings[0], layings[1]), plain_turns(names, layings[0], layings[1]))

    def test_720_rows(self):
        entries = crowd(random.Random(8), 720, 300)
        befores, afters = plain_laying(entries, {}), plain_laying(entries[1:], {5: 0})
        names = sorted(entry[1:3] for entry in entries)
        self.assertEqual(turned(befores, afters), plain_turns(names, befores, afters))


class KindsAndLists(unittest.TestCase):
    def setUp(self):
        chance = random.Random(11)
        self.entries = crowd(chance, 60, 12)
        self.shut = shutters(chance, 20, 40)
        self.one = (1, 70, 0, "moves", 0)
        self.rows = plain_laying(self.entries, self.shut)
        self.others = plain_laying(self.entries[5:] + [self.one], self.shut)
        self.kept = self.copies()

    def copies(self):
        return [list(self.entries), list(self.shut.items()), list(self.rows), list(self.others)]

    def told(self):
        number, year = self.entries[3][1:3]
        return (list(put_in(self.entries, self.shut, self.one)),
                list(take_out(self.entries, self.shut, number, year)), [turned(self.rows, self.others)])

    def test_what_kinds_are_told(self):
        name = self.entries[3][1:3]
        for told in (put_in(self.entries, self.shut, self.one), take_out(self.entries, self.shut, *name)):
            self.assertEqual((type(told), len(told)), (tuple, 2))
            self.assertEqual([type(part) for part in told], [list, list])
            self.assertEqual({(type(row), len(row)) for row in told[0] + told[1]}, {(tuple, 4)})
        turns = turned(self.rows, self.others)
        self.assertIs(type(turns), list)
        self.assertEqual({type(turn) for turn in turns}, {tuple})
        self.assertLessEqual({type(place) for turn in turns for place in turn[2:]}, {tuple, type(None)})

    def test_what_is_handed_in_stays(self):
        self.told()
        self.assertEqual(self.copies(), self.kept)

    def test_a_refusal_leaves_all_as_it_was(self):
        with self.assertRaises(Taken):
            put_in(self.entries, self.shut, self.entries[7])
        with self.assertRaises(NoFeast):
            take_out(self.entries, self.shut, 70, 0)
        self.assertEqual(self.copies(), self.kept)

    def test_a_change_of_what_was_handed_in_changes_nothing_told(self):
        expected = self.told()
        told = self.told()
        for part in (self.entries, self.shut, self.rows, self.others):
            part.clear()
        self.assertEqual(told, expected)

    def test_a_change_of_what_was_told_changes_nothing(self):
        expected = self.told()
        for part in itertools.chain(*self.told()):
            part.reverse()
            del part[1:]
        self.assertEqual(self.copies(), self.kept)
        self.assertEqual(self.told(), expected)


if __name__ == "__main__":
    unittest.main()
