"""Points 20 and 24: orders as texts, and those of places, rows, turns and reasons; NoOrder of point 19; point 25."""

import itertools
import random
import re
import unittest

from feastfall.errors import FeastError, NoOrder
from feastfall.words import read, shown, shown_place, shown_reason, shown_row, shown_turn
from tests.test_ranks import MOST, WAYS

RULES = ("fixed", "anchor")
# One order of each kind, with its text.
EACH = (
    (("year", 365, 100), "year 365 100"),
    (("enter", 12, 3, "moves", "anchor", -5, 0, 9), "enter 12 3 moves anchor -5 0 9"),
    (("strike", 12), "strike 12"),
    (("rank", 12, 4), "rank 12 4"),
    (("shut", 10, 20, 3), "shut 10 20 3"),
    (("anchor", 1, 99), "anchor 1 99"),
    (("seal", 2), "seal 2"),
    (("unseal", 0), "unseal 0"),
)
WORDS = tuple(order[0] for order, _ in EACH)
# Of one to twelve figures, of either sign, and nought.
NUMBERS = (0,) + tuple(sign * int("987654321098"[:figures]) for figures in range(1, 13) for sign in (1, -1)) + tuple(
    sign * 10 ** figures for figures in range(12) for sign in (1, -1))
NO_NUMBERS = ("", "-", "-0", "+5", "+0", "05", "00", "-05", "-00", "1_0", "1_000", "_1", "--5", "5-", "5.0", "1e3",
              "0x10", "1,000", "five", "moves", "fixed", "none", "1234567890123", "-1234567890123", "1000000000000",
              "-1000000000000", "0000000000001", "9" * 100, "(5)", "'5'", "5;", "~", "1/2", "5\t", "-a", "1a", "a1")


def plainly_written(text):
    """Point 20 by one pattern, so that the reader is not checked by itself."""
    number = "(?:0|-?[1-9][0-9]{0,11})"
    forms = (f"(?:year|rank|anchor) {number} {number}", f"(?:strike|seal|unseal) {number}",
             f"shut {number} {number} {number}",
             f"enter {number} {number} (?:moves|stays|lapses) (?:fixed|anchor) {number} {number} {number}")
    return any(re.fullmatch(form, text, re.ASCII) for form in forms)


class Shown(unittest.TestCase):
    def test_each_kind_of_order(self):
        for order, text in EACH:
            self.assertEqual(shown(order), text)

    def test_each_way_and_each_rule(self):
        for way, rule in itertools.product(WAYS, RULES):
            self.assertEqual(shown(("enter", 0, 9, way, rule, 400, 1, 99)), f"enter 0 9 {way} {rule} 400 1 99")

    def test_numbers_are_written_by_their_figures(self):
        for number in NUMBERS:
            self.assertEqual(shown(("seal", number)), "seal " + str(number))
            self.assertEqual(shown(("shut", number, -number, 0)), f"shut {number} {-number} 0")
        self.assertEqual(shown(("seal", 0)), "seal 0")
        self.assertEqual(shown(("seal", -7)), "seal -7")
        self.assertEqual(shown(("seal", 999999999999)), "seal 999999999999")


class Read(unittest.TestCase):
    def told(self, text, expected):
        order = read(text)
        self.assertEqual(order, expected)
        self.assertIs(type(order), tuple)
        self.assertEqual([type(part) for part in order], [type(part) for part in expected])
        self.assertTrue(plainly_written(text))

    def test_each_kind_of_order(self):
        for order, text in EACH:
            self.told(text, order)

    def test_what_is_shown_reads_the_same(self):
        for order, _ in EACH:
            places = [at for at, part in enumerate(order) if isinstance(part, int)]
            for number, at in itertools.product(NUMBERS, places):
                changed = order[:at] + (number,) + order[at + 1:]
                self.told(shown(changed), changed)

    def test_each_way_and_each_rule(self):
        for way, rule in itertools.product(WAYS, RULES):
            self.told(f"enter 12 3 {way} {rule} -5 0 9", ("enter", 12, 3, way, rule, -5, 0, 9))

    def test_numbers_out_of_their_bounds_are_read(self):
        self.told("year 0 -1", ("year", 0, -1))
        self.told("year 401 999999999999", ("year", 401, 999999999999))
        self.told("enter 1000000 10 stays fixed 400 100 -1", ("enter", 1000000, 10, "stays", "fixed", 400, 100, -1))
        self.told("enter -1 0 stays anchor -401 9 8", ("enter", -1, 0, "stays", "anchor", -401, 9, 8))
        self.told("rank -999999999999 999999999999", ("rank", -999999999999, 999999999999))
        self.told("shut 20 10 10", ("shut", 20, 10, 10))
        self.told("seal 13", ("seal", 13))
        self.told("strike 999999999999", ("strike", 999999999999))

    def test_the_longest_one(self):
        text = "enter -999999999999 -999999999999 lapses anchor" + 3 * " -999999999999"
        self.told(text, ("enter", -999999999999, -999999999999, "lapses", "anchor") + 3 * (-999999999999,))


class NotRead(unittest.TestCase):
    def refused(self, text):
        self.assertFalse(plainly_written(text))
        with self.subTest(text=text), self.assertRaises(NoOrder) as caught:
            read(text)
        self.assertIsInstance(caught.exception, FeastError)

    def test_empty_or_blank(self):
        for count in (0, 1, 2, 3, 7, 200):
            self.refused(" " * count)

    def test_a_blank_too_many(self):
        for _, text in EACH:
            self.refused(" " + text)
            self.refused(text + " ")
            self.refused(" " + text + " ")
            for at, sign in enumerate(text):
                if sign == " ":
                    self.refused(text[:at] + " " + text[at:])

    def test_a_blank_within_a_part_or_none_between_two(self):
        for _, text in EACH:
            self.refused(text.replace(" ", ""))
            self.refused(text[:2] + " " + text[2:])
        self.refused("rank 12 - 4")
        self.refused("rank 12 4 4")
        self.refused("rank 124")

    def test_a_part_too_few(self):
        for _, text in EACH:
            parts = text.split(" ")
            for at in range(len(parts)):
                self.refused(" ".join(parts[:at] + parts[at + 1:]))
                self.refused(" ".join(parts[:at]))

    def test_a_part_too_many(self):
        for _, text in EACH:
            parts = text.split(" ")
            for at, more in itertools.product(range(len(parts) + 1), ("0", "7", "moves", "fixed", "seal", "-")):
                self.refused(" ".join(parts[:at] + [more] + parts[at:]))

    def test_a_word_that_is_none(self):
        for word in ("", "years", "yea", "entr", "open", "page", "back", "forth", "rows", "book", "place", "why",
                     "evening", "none", "moves", "fixed", "sealed", "number", "way", "0", "-1", "~", "#", "year:"):
            self.refused(word)
            for _, text in EACH:
                self.refused(" ".join([word] + text.split(" ")[1:]))

    def test_another_order_has_another_form(self):
        for (order, text), word in itertools.product(EACH, WORDS):
            changed = " ".join([word] + text.split(" ")[1:])
            if not plainly_written(changed):
                self.refused(changed)
        self.refused("strike 365 100")
        self.refused("year 12")
        self.refused("shut 12 3 moves anchor -5 0 9")

    def test_great_letters(self):
        for _, text in EACH:
            self.refused(text.upper())
            self.refused(text.capitalize())
        for text in ("enter 12 3 Moves anchor -5 0 9", "enter 12 3 moves Anchor -5 0 9", "enter 12 3 MOVES fixed 5 0 9",
                     "sEal 2", "seaL 2"):
            self.refused(text)

    def test_a_way_or_a_rule_where_another_belongs(self):
        for way, rule in itertools.product(WAYS, RULES):
            self.refused(f"enter 12 3 {rule} {way} -5 0 9")
            self.refused(f"enter 12 3 {way} {way} -5 0 9")
            self.refused(f"enter 12 3 {rule} {rule} -5 0 9")
            self.refused(f"enter 12 {way} 3 {rule} -5 0 9")
            self.refused(f"enter 12 3 {way} -5 {rule} 0 9")
        for word in ("stands", "noted", "out", "move", "movess", "stay", "lapse", "", "none", "way", "enter", "year"):
            self.refused(f"enter 12 3 {word} anchor -5 0 9")
            self.refused(f"enter 12 3 moves {word} -5 0 9")

    def test_a_number_in_place_of_a_word(self):
        for number in ("0", "3", "-5", "12"):
            self.refused(f"enter 12 3 {number} anchor -5 0 9")
            self.refused(f"enter 12 3 moves {number} -5 0 9")
            self.refused(f"{number} 12")

    def test_what_is_no_number(self):
        for (order, text), bad in itertools.product(EACH, NO_NUMBERS):
            parts = text.split(" ")
            for at, part in enumerate(order):
                if isinstance(part, int):
                    self.refused(" ".join(parts[:at] + [bad] + parts[at + 1:]))

    def test_twelve_figures_and_thirteen(self):
        self.assertEqual(read("seal 123456789012"), ("seal", 123456789012))
        self.assertEqual(read("seal -123456789012"), ("seal", -123456789012))
        self.refused("seal 1234567890123")
        self.refused("seal -1234567890123")
        self.refused(f"seal {MOST}")
        self.refused(f"seal {-MOST}")
        self.refused("seal " + "1" * 195)

    def test_texts_with_one_sign_changed_put_in_or_left_out(self):
        chance = random.Random(20)
        signs = [sign for sign in map(chr, range(32, 127)) if sign != "%"]
        for _, text in EACH:
            for at in range(len(text) + 1):
                for sign in chance.sample(signs, 12) + list(" -0159+_"):
                    for changed in (text[:at] + sign + text[at:], text[:at] + sign + text[at + 1:],
                                    text[:at] + text[at + 1:]):
                        self.held_against_the_pattern(changed)

    def held_against_the_pattern(self, text):
        if plainly_written(text):
            self.assertEqual(shown(read(text)), text)
        else:
            with self.assertRaises(NoOrder):
                read(text)


class Texts(unittest.TestCase):
    def test_places(self):
        self.assertEqual(shown_place(("stands", 40)), "stands 40")
        self.assertEqual(shown_place(("noted", 40)), "noted 40")
        self.assertEqual(shown_place(("out", 40)), "out 40")
        self.assertEqual(shown_place(None), "none")
        self.assertEqual(shown_place(("stands", 0)), "stands 0")
        self.assertEqual(shown_place(("out", MOST)), "out 1000000000000")

    def test_rows(self):
        self.assertEqual(shown_row((12, 3, "stands", 40)), "12 3 stands 40")
        self.assertEqual(shown_row((0, 0, "noted", 0)), "0 0 noted 0")
        self.assertEqual(shown_row((MOST, 11, "out", MOST)), "1000000000000 11 out 1000000000000")

    def test_turns(self):
        self.assertEqual(shown_turn((12, 3, None, ("stands", 40))), "12 3 none to stands 40")
        self.assertEqual(shown_turn((12, 3, ("noted", 40), None)), "12 3 noted 40 to none")
        self.assertEqual(shown_turn((12, 3, None, None)), "12 3 none to none")
        self.assertEqual(shown_turn((0, 0, ("out", 0), ("stands", 0))), "0 0 out 0 to stands 0")
        places = {None: "none", ("stands", 7): "stands 7", ("noted", 8): "noted 8", ("out", MOST): f"out {MOST}"}
        for before, after in itertools.product(places, places):
            self.assertEqual(shown_turn((999999, 11, before, after)), f"999999 11 {places[before]} to {places[after]}")

    def test_reasons(self):
        self.assertEqual(shown_reason((40, "shut", 3)), "40 shut 3")
        self.assertEqual(shown_reason((40, "held", 12, 3)), "40 held 12 3")
        self.assertEqual(shown_reason((0, "shut", 0)), "0 shut 0")
        self.assertEqual(shown_reason((MOST, "held", 0, 0)), f"{MOST} held 0 0")

    def test_they_are_texts(self):
        for told in (shown_place(None), shown_place(("out", 1)), shown_row((1, 2, "out", 3)), shown(("seal", 1)),
                     shown_turn((1, 2, None, None)), shown_reason((1, "shut", 2))):
            self.assertIs(type(told), str)


class WhatIsHandedIn(unittest.TestCase):
    def test_orders_read_twice_are_the_same(self):
        for order, text in EACH:
            self.assertEqual(read(text), read(text))
            self.assertEqual(shown(order), shown(order))
            self.assertEqual(shown(read(text)), text)

    def test_a_refusal_leaves_the_reader_as_it_was(self):
        for order, text in EACH:
            with self.assertRaises(NoOrder):
                read(text + " 0 0")
            self.assertEqual(read(text), order)


if __name__ == "__main__":
    unittest.main()
