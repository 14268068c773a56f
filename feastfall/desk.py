"""The desk: a log of its own that is spoken to by texts and answers by texts."""

from feastfall.errors import BadDay, BadFeast, BadYear, NoBack, NoDay, NoFeast, NoForth, NoOrder, NoYear, Sealed, Taken
from feastfall.words import read, read_parts, shown_place, shown_reason, shown_row, shown_turn
from feastfall.yearlog import Log


def shown_turns(turns):
    """A text for each turn."""
    return [shown_turn(turn) for turn in turns]


def shown_name(name):
    """The text of number and year of an entry, or of None."""
    if name is None:
        return "none"
    number, year = name
    return f"{number} {year}"


def go_back(log):
    """Answers back."""
    return shown_turns(log.back())


def go_forth(log):
    """Answers forth."""
    return shown_turns(log.forth())


def tell_rows(log):
    """Answers rows."""
    return [shown_row(row) for row in log.book().rows()]


def tell_book(log):
    """Answers book."""
    return log.book().told()


def tell_page(book, year, day):
    """Answers page."""
    holder, noted = book.page(year, day)
    return [shown_name(name) for name in [holder] + noted]


def tell_evening(book, year, day):
    """Answers evening."""
    return [shown_name(book.evening(year, day))]


def tell_place(book, number, year):
    """Answers place."""
    return [shown_place(book.place(number, year))]


def tell_why(book, number, year):
    """Answers why."""
    return [shown_reason(reason) for reason in book.why(number, year)]


WORDS = {"back": go_back, "forth": go_forth, "rows": tell_rows, "book": tell_book}
QUESTIONS = {"page": tell_page, "evening": tell_evening, "place": tell_place, "why": tell_why}


def answer(log, text):
    """The answer to a text that is not refused."""
    if text in WORDS:
        tell = WORDS[text]
        return tell(log)
    word, *texts = text.split(" ")
    if word in QUESTIONS:
        ask = QUESTIONS[word]
        one, other = read_parts(texts, ("number", "number"))
        return ask(log.book(), one, other)
    return shown_turns(log.deed(read(text)))


class Desk:
    """A desk; Desk() has a new log."""

    def __init__(self):
        self.log = Log()

    def say(self, text):
        """The answer to a text, a list of texts."""
        try:
            return answer(self.log, text)
        except Sealed as refusal:
            return [f"no: sealed {refusal.number} {refusal.year} {refusal.day}"]
        except NoDay:
            return ["no: day"]
        except NoYear:
            return ["no: year"]
        except BadYear:
            return ["no: bad year"]
        except BadDay:
            return ["no: bad day"]
        except BadFeast:
            return ["no: bad feast"]
        except Taken:
            return ["no: taken"]
        except NoFeast:
            return ["no: feast"]
        except NoOrder:
            return ["no: order"]
        except NoBack:
            return ["no: back"]
        except NoForth:
            return ["no: forth"]
