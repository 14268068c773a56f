"""Points 23 and 24: the desk; point 25 for it."""

import random
import unittest

from feastfall.desk import Desk
from feastfall.errors import FeastError
from feastfall.words import shown, shown_place, shown_reason, shown_row, shown_turn
from feastfall.yearlog import Log
from tests.test_book import PlainBook, any_order
from tests.test_words import EACH, NO_NUMBERS, plainly_written

WORDS = {"NoDay": "day", "NoYear": "year", "BadYear": "bad year", "BadDay": "bad day", "BadFeast": "bad feast",
         "Taken": "taken", "NoFeast": "feast", "NoOrder": "order", "NoBack": "back", "NoForth": "forth"}


def desk_by(*texts):
    """A desk to which these texts were said, all of them orders that are done."""
    desk = Desk()
    for text in texts:
        for told in desk.say(text):
            assert not told.startswith("no:"), (text, told)
    return desk


def plain_answer(log, text):
    """Point 23 word by word, upon a log of its own, for texts that are orders or questions rightly written."""
    word, *parts = text.split(" ")
    book = log.book()
    try:
        if text == "back" or text == "forth":
            return [shown_turn(turn) for turn in (log.back() if text == "back" else log.forth())]
        if text == "rows":
            return [shown_row(row) for row in book.rows()]
        if text == "book":
            return book.told()
        if word == "page":
            holder, noted = book.page(int(parts[0]), int(parts[1]))
            return [f"{holder[0]} {holder[1]}" if holder else "none"] + [f"{one} {other}" for one, other in noted]
        if word == "evening":
            name = book.evening(int(parts[0]), int(parts[1]))
            return ["none"] if name is None else [f"{name[0]} {name[1]}"]
        if word == "place":
            return [shown_place(book.place(int(parts[0]), int(parts[1])))]
        if word == "why":
            return [shown_reason(reason) for reason in book.why(int(parts[0]), int(parts[1]))]
        order = tuple(int(part) if part.strip("-").isdigit() else part for part in text.split(" "))
        return [shown_turn(turn) for turn in log.deed(order)]
    except FeastError as refusal:
        if type(refusal).__name__ == "Sealed":
            return [f"no: sealed {refusal.number} {refusal.year} {refusal.day}"]
        return ["no: " + WORDS[type(refusal).__name__]]


class Orders(unittest.TestCase):
    def test_a_text_for_each_turn(self):
        desk = Desk()
        for text, expected in (
                ("enter 12 3 moves fixed 4 0 9", []),
                ("year 10 4", ["12 0 none to stands 4"]),
                ("enter 7 5 stays anchor 0 0 9", ["7 0 none to noted 4"]),
                ("enter 30 7 lapses fixed 4 0 9", ["30 0 none to out 4"]),
                ("shut 4 5 2", ["12 0 stands 4 to stands 6"]),
                ("rank 12 1", ["12 0 stands 6 to stands 4"]),
                ("shut 4 4 9", []),
                ("strike 12", ["7 0 noted 4 to stands 4", "12 0 stands 4 to none"]),
                ("anchor 0 9", ["7 0 stands 4 to stands 9", "30 0 out 4 to stands 4"]),
                ("seal 0", []),
                ("unseal 0", []),
                ("year 1 0", ["7 1 none to stands 10"])):
            self.assertEqual(desk.say(text), expected, text)

    def test_back_and_forth(self):
        desk = desk_by("year 10 4", "enter 12 3 moves fixed 4 0 9", "shut 4 5 2", "seal 0")
        for _ in range(2):
            self.assertEqual(desk.say("back"), [])
            self.assertEqual(desk.say("back"), ["12 0 stands 6 to stands 4"])
            self.assertEqual(desk.say("back"), ["12 0 stands 4 to none"])
            self.assertEqual(desk.say("back"), [])
            self.assertEqual(desk.say("back"), ["no: back"])
            self.assertEqual(desk.say("book"), [])
            self.assertEqual(desk.say("forth"), [])
            self.assertEqual(desk.say("forth"), ["12 0 none to stands 4"])
            self.assertEqual(desk.say("forth"), ["12 0 stands 4 to stands 6"])
            self.assertEqual(desk.say("forth"), [])
            self.assertEqual(desk.say("forth"), ["no: forth"])

    def test_a_deed_drops_what_was_taken_back_and_a_refused_one_does_not(self):
        desk = desk_by("year 10 4", "enter 12 3 moves fixed 4 0 9")
        desk.say("back")
        for text in ("year 0 0", "strike 12", "no", "back 1", "page 0 10", "rows", "book", "page 0 0"):
            desk.say(text)
        self.assertEqual(desk.say("forth"), ["12 0 none to stands 4"])
        desk.say("back")
        desk.say("unseal 0")
        self.assertEqual(desk.say("forth"), ["no: forth"])


class Questions(unittest.TestCase):
    def setUp(self):
        self.desk = desk_by("year 10 4", "year 10 4", "enter 12 3 moves fixed 4 0 9", "enter 7 5 stays anchor 0 0 9",
                            "enter 3 5 stays anchor 0 0 0", "enter 30 7 lapses fixed 4 1 1",
                            "enter 8 4 moves anchor 15 0 0", "enter 9 4 moves anchor 6 1 1",
                            "enter 10 9 moves fixed 4 0 0", "shut 5 6 2")

    def told(self, text, *expected):
        self.assertEqual(self.desk.say(text), list(expected), text)

    def test_rows(self):
        self.told("rows", "12 0 stands 4", "12 1 stands 14", "8 0 stands 19", "9 1 stands 20", "3 0 noted 4",
                  "7 0 noted 4", "7 1 noted 14", "30 1 out 14", "10 0 stands 7")

    def test_book(self):
        self.told("book", "year 10 4", "year 10 4", "enter 3 5 stays anchor 0 0 0", "enter 7 5 stays anchor 0 0 9",
                  "enter 8 4 moves anchor 15 0 0", "enter 9 4 moves anchor 6 1 1", "enter 10 9 moves fixed 4 0 0",
                  "enter 12 3 moves fixed 4 0 9", "enter 30 7 lapses fixed 4 1 1", "shut 5 6 2")
        self.desk.say("seal 1")
        self.assertEqual(self.desk.say("book")[-1], "seal 1")

    def test_nothing(self):
        desk = Desk()
        self.assertEqual(desk.say("rows"), [])
        self.assertEqual(desk.say("book"), [])
        self.assertEqual(desk.say("page 0 0"), ["none"])
        self.assertEqual(desk.say("evening 0 999999999999"), ["none"])

    def test_page(self):
        self.told("page 0 4", "12 0", "3 0", "7 0")
        self.told("page 1 4", "12 1", "7 1")
        self.told("page 0 7", "10 0")
        self.told("page 0 0", "none")
        self.told("page 0 9", "none")
        self.told("page 1 9", "8 0")
        self.told("page 2 0", "9 1")
        self.told("page 2 1", "none")
        self.told("page 2 999999999999", "none")

    def test_a_page_with_noted_ones_alone(self):
        self.desk.say("strike 12")
        self.desk.say("shut 4 4 0")
        self.told("page 0 4", "none", "3 0", "7 0")

    def test_evening(self):
        self.told("evening 0 3", "12 0")
        self.told("evening 0 4", "12 0")
        self.told("evening 0 5", "none")
        self.told("evening 0 6", "10 0")
        self.told("evening 0 9", "none")
        self.told("evening 1 9", "9 1")
        self.told("evening 2 0", "9 1")
        self.told("evening 2 1", "none")

    def test_place(self):
        self.told("place 12 0", "stands 4")
        self.told("place 12 1", "stands 14")
        self.told("place 3 0", "noted 4")
        self.told("place 30 1", "out 14")
        self.told("place 9 1", "stands 20")

    def test_why(self):
        self.told("why 12 0")
        self.told("why 3 0", "4 held 12 0")
        self.told("why 30 1", "14 held 12 1")
        self.told("why 10 0", "4 held 12 0", "5 shut 2", "6 shut 2")
        self.desk.say("shut 4 4 3")
        self.told("why 7 0", "4 shut 3")

    def test_questions_make_no_stand(self):
        before = self.desk.say("book")
        for text in ("rows", "book", "page 0 4", "evening 0 4", "place 12 0", "why 10 0"):
            self.desk.say(text)
        self.assertEqual(self.desk.say("book"), before)
        self.assertEqual(self.desk.say("back"), ["10 0 stands 7 to stands 5"])


class Refusals(unittest.TestCase):
    def setUp(self):
        self.desk = desk_by("year 10 4", "year 5 0", "enter 12 3 moves fixed 4 0 9", "seal 1")

    def refused(self, text, expected):
        ahead = [self.desk.say("rows"), self.desk.say("book")]
        self.assertEqual(self.desk.say(text), [expected], text)
        self.assertEqual([self.desk.say("rows"), self.desk.say("book")], ahead)

    def test_each_of_them(self):
        for text in ("page 0 10", "page -1 0", "page 3 0", "page 0 -1", "evening 1 5", "evening 2 -1", "evening -5 0",
                     "page 999999999999 0", "page 0 999999999999", "evening 0 -999999999999"):
            self.refused(text, "no: day")
        for text in ("seal 2", "unseal -1", "anchor 2 0", "anchor -1 99"):
            self.refused(text, "no: year")
        for text in ("year 0 0", "year 401 0", "year 10 10", "anchor 0 10", "anchor 0 -1"):
            self.refused(text, "no: bad year")
        for text in ("shut 3 2 0", "shut -1 2 0", "shut 0 15 0", "shut 0 0 10", "shut 0 0 -1"):
            self.refused(text, "no: bad day")
        for text in ("enter 13 10 moves fixed 4 0 9", "enter 1000000 3 moves fixed 4 0 9", "rank 12 0",
                     "enter 12 3 moves fixed 400 0 9", "enter 13 3 moves fixed 4 9 0"):
            self.refused(text, "no: bad feast")
        self.refused("enter 12 3 moves fixed 4 0 9", "no: taken")
        for text in ("strike 13", "rank 13 0", "place 13 0", "why 13 0", "place 12 2", "why 12 -1", "place -12 0",
                     "place 999999999999 999999999999"):
            self.refused(text, "no: feast")
        self.refused("forth", "no: forth")
        self.assertEqual(Desk().say("back"), ["no: back"])

    def test_sealed(self):
        self.refused("strike 12", "no: sealed 12 1 14")
        self.refused("enter 5 1 moves fixed 0 0 9", "no: sealed 5 1 10")
        self.refused("shut 4 9 0", "no: sealed 12 0 10")
        self.refused("anchor 1 9", "no: bad year")

    def test_what_is_no_order_and_no_question(self):
        for text in ("", " ", "  ", "no", "none", "Back", "BACK", "rows ", " rows", "rows rows", "rows 0", "back 1",
                     "back back", "forth 2", "forth ", " back", "book 0", "book ", "books", "stand", "between 0 1",
                     "page", "page 0", "page 0 0 0", "page  0 0", "page 0  0", " page 0 0", "page 0 0 ", "Page 0 0",
                     "evening", "evening 0", "evening 0 0 0", "evening 0 0 ", "place", "place 12", "place 12 0 0",
                     "place 12  0", "place 12 0 ", "why", "why 12", "why 12 0 0", " why 12 0", "why  12 0", "why 12 0 ",
                     "deed seal 0", "say rows", "twin", "told", "shut", "sealed", "lengths", "entries", "12 0",
                     "page year day", "place moves fixed", "no: order", "~" * 200, " " * 200, "rows,", "back;"):
            self.refused(text, "no: order")

    def test_numbers_that_are_not_so_written(self):
        for word in ("page", "evening", "place", "why"):
            for bad in NO_NUMBERS:
                self.refused(f"{word} {bad} 0", "no: order")
                self.refused(f"{word} 0 {bad}", "no: order")
                self.refused(f"{word} {bad} {bad}", "no: order")
        self.refused("page 0 1234567890123", "no: order")
        self.refused("page 2 1000000000000", "no: order")
        self.assertEqual(self.desk.say("page 2 999999999999"), ["none"])

    def test_orders_that_are_not_so_written(self):
        for order, text in EACH:
            for wrong in (" " + text, text + " ", text.replace(" ", "  ", 1), text + " 0", text.upper(),
                          text.rpartition(" ")[0], text.rpartition(" ")[0] + " -0", text.rpartition(" ")[0] + " 007",
                          text.rpartition(" ")[0] + " 1234567890123", text.rpartition(" ")[0] + " x"):
                self.assertFalse(plainly_written(wrong))
                self.refused(wrong, "no: order")

    def test_a_refusal_drops_nothing_that_was_taken_back(self):
        self.desk.say("back")
        for text in ("strike 13", "page 0 10", "no", "shut 3 2 0"):
            self.desk.say(text)
        self.assertEqual(self.desk.say("forth"), [])
        self.assertEqual(self.desk.say("book")[-1], "seal 1")


class ManyTexts(unittest.TestCase):
    def any_text(self, chance, plain):
        small = chance.randint(-1, 12)
        year = chance.randint(-1, len(plain.lengths) + 1)
        day = chance.randint(-1, 12)
        name = chance.choice([row[:2] for row in plain.rows()] + [(small, year)])
        return chance.choice(["back", "back", "forth", "rows", "book", f"page {year} {day}", f"evening {year} {day}",
                              "place {} {}".format(*name), "why {} {}".format(*name)])

    def test_against_a_plain_answer(self):
        met = set()
        for seed in range(40):
            chance = random.Random(seed)
            desk, log, plain = Desk(), Log(), PlainBook()
            for _ in range(60):
                if chance.random() < 0.6:
                    order = any_order(chance, plain)
                    text = shown(order)
                else:
                    text = self.any_text(chance, plain)
                answer = desk.say(text)
                self.assertEqual(answer, plain_answer(log, text), text)
                met |= {part for part in answer if part.startswith("no: ") and "sealed" not in part}
                plain = self.plain_of(log)
        self.assertEqual(met, {"no: " + word for word in WORDS.values() if word != "order"})

    def plain_of(self, log):
        plain = PlainBook()
        for text in log.book().told():
            parts = text.split(" ")
            plain.change(tuple(int(part) if part.strip("-").isdigit() else part for part in parts))
        return plain


class OwnWays(unittest.TestCase):
    """Point 25 for the desk."""

    def test_kinds(self):
        desk = desk_by("year 10 4", "enter 12 3 moves fixed 4 0 9")
        for text in ("rows", "book", "page 0 4", "evening 0 4", "place 12 0", "why 12 0", "shut 4 4 0", "back", "forth",
                     "no", "seal 9", "strike 12"):
            told = desk.say(text)
            self.assertIs(type(told), list)
            self.assertLessEqual({type(part) for part in told}, {str})

    def test_a_change_of_a_told_list_changes_nothing(self):
        desk = desk_by("year 10 4", "enter 12 3 moves fixed 4 0 9", "enter 7 5 stays anchor 0 0 9")
        questions = ("rows", "book", "page 0 4", "evening 0 4", "place 12 0", "why 7 0", "page 9 9", "no")
        expected = [desk.say(text) for text in questions]
        for text in questions + ("strike 7", "back"):
            told = desk.say(text)
            self.assertTrue(told)
            told.append("strike 12")
            told.reverse()
            del told[1:]
        self.assertEqual([desk.say(text) for text in questions], expected)

    def test_two_desks_go_their_own_ways(self):
        one, other = Desk(), Desk()
        one.say("year 10 4")
        self.assertEqual(other.say("book"), [])
        self.assertEqual(other.say("back"), ["no: back"])
        self.assertEqual(one.say("book"), ["year 10 4"])


if __name__ == "__main__":
    unittest.main()
