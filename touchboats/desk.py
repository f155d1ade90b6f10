"""A desk that takes lines of text to a book and answers in texts."""

from touchboats.books import LAST_DAY, LAST_TURN, Book
from touchboats.deeds import deeds_of
from touchboats.errors import NoLine, NoText
from touchboats.fewest import fewest, is_few
from touchboats.heads import heads_of
from touchboats.reading import read_day, read_row, read_torn
from touchboats.rows import MOST_BOATS, MOST_SIZE, is_boat, is_meeting
from touchboats.showing import show_day, show_row
from touchboats.tellings import days_between, told_by

MOST_DAYS = 4


def number_by(word, most):
    """The number from 0 to most that is so written, or None."""
    for number in range(most + 1):
        if word == str(number):
            return number
    return None


def number_at(words, at, most):
    """The number from 0 to most that stands at this place of the words."""
    number = number_by(words[at], most) if at < len(words) else None
    if number is None:
        raise NoLine("a number is missing, or none that may stand there")
    return number


def number_alone(words, most):
    """The number from 0 to most that is all of the words."""
    if len(words) != 1:
        raise NoLine("one number is asked for")
    return number_at(words, 0, most)


def tell_line(book, words):
    """tell D DAY"""
    book.tell(number_at(words, 0, LAST_DAY), read_day(" ".join(words[1:])))
    return "done"


def torn_line(book, words):
    """torn D TORN"""
    book.torn(number_at(words, 0, LAST_DAY), read_torn(" ".join(words[1:])))
    return "done"


def turn_line(book, words):
    """turn Y GOES / COMES"""
    y = number_at(words, 0, LAST_TURN)
    sides = " ".join(words[1:]).split(" / ")
    if len(sides) != 2:
        raise NoLine("who goes and who comes is asked for")
    goes, comes = [() if side == "-" else read_row(side) for side in sides]
    book.turn(y, goes, comes)
    return "done"


def untell_line(book, words):
    """untell D"""
    book.untell(number_alone(words, LAST_DAY))
    return "done"


def unturn_line(book, words):
    """unturn Y"""
    book.unturn(number_alone(words, LAST_TURN))
    return "done"


def show_known(row):
    """The row as a text, or that it isn't known."""
    return "-" if row is None else show_row(row)


def morning_line(book, words):
    """morning D"""
    return show_known(book.morning(number_alone(words, LAST_DAY)))


def evening_line(book, words):
    """evening D"""
    return show_known(book.evening(number_alone(words, LAST_DAY)))


def state_line(book, words):
    """state D"""
    return book.state(number_alone(words, LAST_DAY))


def turned_line(book, words):
    """turned Y"""
    return book.turned(number_alone(words, LAST_TURN))


def show_deed(deed):
    """A deed as a text."""
    k, mark, other = deed
    return f"{k} {mark}" if other is None else f"{k} {mark} {other}"


def deeds_line(book, words):
    """deeds D BOAT"""
    d = number_at(words, 0, LAST_DAY)
    if len(words) != 2 or not is_boat(words[1]):
        raise NoLine("a day and a boat are asked for")
    row = book.morning(d)
    # Only a day that is told whole is sound by this word.
    if book.state(d) != "sound" or words[1] not in row:
        return "-"
    deeds = dict(deeds_of(book.meeting, row, book.thing_told(d)))
    return "; ".join([show_deed(deed) for deed in deeds[words[1]]])


def touches_line(book, words):
    """touches D"""
    d = number_alone(words, LAST_DAY)
    row, other = book.morning(d), book.evening(d)
    if other is None:
        return "-"
    races = told_by(book.meeting, row, other)[1]
    return show_day([touches for touches, drops, free in races])


def free_line(book, words):
    """free D"""
    d = number_alone(words, LAST_DAY)
    row, other = book.morning(d), book.evening(d)
    return "-" if other is None else str(days_between(book.meeting, row, other))


def few_line(book, words):
    """few D E"""
    d, e = number_at(words, 0, LAST_DAY), number_at(words, 1, LAST_DAY)
    if len(words) != 2:
        raise NoLine("two days are asked for")
    row, other = book.morning(d), book.morning(e)
    if row is None or other is None or sorted(row) != sorted(other):
        return "-"
    if not is_few(book.meeting, len(row)):
        return "great"
    return str(fewest(book.meeting, row, other)[0])


def heads_line(book, words):
    """heads D M and those who rest"""
    d, many = number_at(words, 0, LAST_DAY), number_at(words, 1, MOST_DAYS)
    resting = sorted(words[2:])
    if len(resting) > MOST_BOATS or not all([is_boat(boat) for boat in resting]):
        raise NoLine("at most so many boats as a row has are asked for")
    row = book.morning(d)
    if row is None or len(set(resting)) != len(resting) or not all([boat in row for boat in resting]):
        return "-"
    heads = [boat for boat, thing in heads_of(book.meeting, row, tuple(resting), many) if thing[0] == "can"]
    return show_row(heads) or "none"


LINES = {
    "tell": tell_line,
    "torn": torn_line,
    "turn": turn_line,
    "untell": untell_line,
    "unturn": unturn_line,
    "morning": morning_line,
    "evening": evening_line,
    "state": state_line,
    "turned": turned_line,
    "deeds": deeds_line,
    "touches": touches_line,
    "free": free_line,
    "few": few_line,
    "heads": heads_line,
}


def book_by(text):
    """The book that begins with SIZE REACH ROW."""
    if not isinstance(text, str):
        raise NoText("a desk begins with a text")
    words = text.split(" ")
    meeting = tuple([number_by(word, MOST_SIZE) for word in words[:2]])
    if not is_meeting(meeting):
        raise NoText("a desk begins with a meeting's two figures")
    return Book(meeting, read_row(" ".join(words[2:])))


class Desk:
    """A book, spoken to in lines."""

    def __init__(self, text):
        self.book = book_by(text)

    def say(self, line):
        """What the desk answers to the line."""
        words = line.split(" ") if isinstance(line, str) else [""]
        if words[0] not in LINES:
            raise NoLine("no line begins so")
        deed = LINES[words[0]]
        try:
            return deed(self.book, words[1:])
        except NoText:
            raise NoLine("the line has no such text") from None
