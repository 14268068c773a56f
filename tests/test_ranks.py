"""Points 3, 4 and 5: entries, their order, and shut days; point 25 for these functions."""

import unittest

from feastfall.ranks import ahead, open_to, ordered

MOST = 10 ** 12
WAYS = ("moves", "stays", "lapses")


def higher(one, other):
    """Point 4 word by word, so that the order is not checked by itself."""
    if one[0] != other[0]:
        return one[0] < other[0]
    if one[1] != other[1]:
        return one[1] < other[1]
    return one[2] < other[2]


def from_highest(entries):
    """Each entry stands behind as many others as are higher than it."""
    told = [None] * len(entries)
    for one in entries:
        told[sum(higher(other, one) for other in entries)] = one
    return told


def mixed(count):
    """Entries in no order, of all ranks and ways, with large and small parts; none twice."""
    entries = []
    for at in range(count):
        number = (at * 37 % 23) * (MOST // 22) if at % 3 else at * 37 % 11
        year = at if at % 2 else MOST - at
        entries.append((at * 7 % 9 + 1, number, year, WAYS[at % 3], at * 7919 * 10 ** 9 % (MOST + 1)))
    return entries


class Ahead(unittest.TestCase):
    def both_ways(self, one, other):
        self.assertIs(ahead(one, other), True)
        self.assertIs(ahead(other, one), False)

    def test_the_lesser_rank_number_is_the_higher(self):
        for rank in range(1, 9):
            self.both_ways((rank, 5, 5, "moves", 5), (rank + 1, 5, 5, "moves", 5))
        self.both_ways((1, MOST, MOST, "moves", MOST), (2, 0, 0, "moves", 0))
        self.both_ways((1, 5, 5, "stays", 5), (9, 5, 5, "lapses", 5))

    def test_of_like_ranks_the_lesser_number(self):
        for way in WAYS:
            self.both_ways((4, 2, 5, way, 5), (4, 10, 5, "moves", 5))
        self.both_ways((4, 0, MOST, "stays", MOST), (4, 1, 0, "lapses", 0))
        self.both_ways((4, MOST - 1, MOST, "moves", 0), (4, MOST, 0, "moves", 0))

    def test_of_like_numbers_the_lesser_year(self):
        self.both_ways((4, 7, 0, "moves", 9), (4, 7, 1, "lapses", 0))
        self.both_ways((4, 7, 9, "stays", MOST), (4, 7, 10, "moves", 0))
        self.both_ways((4, MOST, MOST - 1, "stays", 3), (4, MOST, MOST, "lapses", 3))

    def test_way_and_own_day_do_not_count(self):
        for one in WAYS:
            for other in WAYS:
                self.both_ways((3, 1, 1, one, 9), (3, 1, 2, other, 0))
                self.both_ways((3, 1, 1, one, 0), (3, 1, 2, other, 9))

    def test_an_entry_is_not_ahead_of_itself(self):
        for one in mixed(30) + [(1, 0, 0, "moves", 0), (9, MOST, MOST, "lapses", MOST)]:
            self.assertIs(ahead(one, one), False)

    def test_every_two_of_many(self):
        entries = mixed(130)
        for one in entries:
            for other in entries:
                self.assertIs(ahead(one, other), higher(one, other))


class Ordered(unittest.TestCase):
    def test_no_entry(self):
        self.assertEqual(ordered([]), [])

    def test_one_entry(self):
        self.assertEqual(ordered([(9, MOST, MOST, "stays", MOST)]), [(9, MOST, MOST, "stays", MOST)])

    def test_some_by_hand(self):
        a = (1, 9, 9, "moves", MOST)
        b = (2, 2, 10, "lapses", 4)
        c = (2, 10, 0, "stays", 0)
        d = (2, 10, 1, "moves", 0)
        e = (9, 0, 0, "stays", 1)
        for handed in ([e, d, c, b, a], [a, b, c, d, e], [c, a, e, b, d], [d, b, e, a, c]):
            with self.subTest(handed=handed):
                self.assertEqual(ordered(handed), [a, b, c, d, e])

    def test_the_own_day_and_the_way_do_not_count(self):
        first = (5, 1, 1, "stays", MOST)
        second = (5, 1, 2, "lapses", 0)
        self.assertEqual(ordered([second, first]), [first, second])

    def test_many_entries(self):
        for count in (2, 3, 17, 199, 200):
            entries = mixed(count)
            self.assertEqual(len({(number, year) for _, number, year, _, _ in entries}), count)
            for handed in (entries, entries[::-1], entries[count // 2:] + entries[:count // 2]):
                with self.subTest(count=count, first=handed[0]):
                    self.assertEqual(ordered(handed), from_highest(entries))

    def test_the_largest_parts(self):
        entries = [(9, MOST, MOST, "moves", MOST), (9, MOST, 0, "stays", MOST), (9, 0, MOST, "lapses", MOST),
                   (1, MOST, MOST, "stays", 0)]
        self.assertEqual(ordered(entries), [entries[3], entries[2], entries[1], entries[0]])

    def test_it_tells_a_new_list_of_the_same_tuples(self):
        for entries in ([], mixed(1), mixed(200), from_highest(mixed(200))):
            told = ordered(entries)
            self.assertIs(type(told), list)
            self.assertIsNot(told, entries)
            self.assertEqual(sorted(map(id, told)), sorted(map(id, entries)))

    def test_the_list_handed_in_stays(self):
        entries = mixed(200)
        kept = list(entries)
        ordered(entries)
        self.assertEqual(entries, kept)

    def test_a_change_of_the_told_list_changes_nothing(self):
        entries = mixed(20)
        kept = list(entries)
        told = ordered(entries)
        told.reverse()
        del told[3:]
        told.append((1, 0, 0, "moves", 0))
        self.assertEqual(entries, kept)
        self.assertEqual(ordered(entries), from_highest(kept))

    def test_a_change_of_the_handed_list_changes_nothing_told(self):
        entries = mixed(20)
        told = ordered(entries)
        expected = from_highest(entries)
        entries.clear()
        self.assertEqual(told, expected)


class OpenTo(unittest.TestCase):
    def test_every_bound_against_every_rank(self):
        for bound in range(9):
            for rank in range(1, 10):
                for day in (0, 1, 4800, MOST):
                    with self.subTest(bound=bound, rank=rank, day=day):
                        self.assertIs(open_to(rank, day, {day: bound}), rank <= bound)

    def test_a_bound_of_0_shuts_the_day_to_all(self):
        self.assertEqual([open_to(rank, 7, {7: 0}) for rank in range(1, 10)], [False] * 9)

    def test_a_bound_of_8_shuts_the_day_to_the_lowest_alone(self):
        self.assertEqual([open_to(rank, 7, {7: 8}) for rank in range(1, 10)], [True] * 8 + [False])

    def test_a_day_that_is_not_named_is_open_to_all(self):
        for shut in ({}, {6: 0, 8: 0}, {0: 0, MOST: 0}):
            for rank in range(1, 10):
                for day in (7, MOST - 1, MOST + 1):
                    with self.subTest(shut=shut, rank=rank, day=day):
                        self.assertIs(open_to(rank, day, shut), True)

    def test_a_rank_beyond_the_ninth_stands_on_days_that_are_not_named_too(self):
        self.assertIs(open_to(12, 7, {}), True)
        self.assertIs(open_to(12, 7, {7: 8}), False)

    def test_each_of_many_days_has_its_own_bound(self):
        shut = {day * (MOST // 4999): day % 9 for day in range(5000)}
        self.assertEqual(len(shut), 5000)
        for day, bound in shut.items():
            self.assertIs(open_to(5, day, shut), bound >= 5)
            self.assertIs(open_to(5, day + 1, shut), True)

    def test_the_dict_stays(self):
        shut = {0: 0, 5: 3, MOST: 8}
        for rank in range(1, 10):
            for day in (0, 1, 5, 6, MOST - 1, MOST):
                open_to(rank, day, shut)
        self.assertEqual(list(shut.items()), [(0, 0), (5, 3), (MOST, 8)])

    def test_the_dict_may_be_changed_behind_the_call(self):
        shut = {5: 0}
        self.assertIs(open_to(1, 5, shut), False)
        del shut[5]
        self.assertIs(open_to(1, 5, shut), True)
        shut[5] = 1
        self.assertIs(open_to(1, 5, shut), True)
        self.assertIs(open_to(2, 5, shut), False)


if __name__ == "__main__":
    unittest.main()
