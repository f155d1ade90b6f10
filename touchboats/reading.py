"""Rows, days and torn sheets read from texts, just as showing writes them."""

from touchboats.days import is_day
from touchboats.errors import NoText
from touchboats.mending import is_torn_day
from touchboats.rows import is_row


def read_row(text):
    """The row that is so written."""
    row = tuple(text.split(" ")) if isinstance(text, str) else None
    if not is_row(row):
        raise NoText("no row is so written")
    return row


def read_event(text):
    """The event that is so written, if one is."""
    if text.endswith("!"):
        return ("drop", text[:-1])
    x, sign, y = text.partition(">")
    return ("touch", x, y)


def read_sheet(text):
    """The sheet that is so written, if one is."""
    if text == "-":
        return ()
    return tuple([read_event(part) for part in text.split(" ")])


def read_day(text):
    """The day that is so written."""
    day = tuple([read_sheet(part) for part in text.split(" / ")]) if isinstance(text, str) else None
    # Each part that isn't a boat's name, and so each sign that is too much, shows here.
    if not is_day(day):
        raise NoText("no day is so written")
    return day


def read_parts(parts):
    """What each of these texts tells, or None."""
    return tuple([None if part == "?" else part for part in parts])


def read_sheet_torn(text):
    """The torn sheet that is so written, if one is."""
    marks, blank, behind = text.partition(" ")
    return (read_parts(list(marks)), read_parts(behind.split(" ")))


def read_torn(text):
    """The torn sheets of a day that are so written."""
    sheets = tuple([read_sheet_torn(part) for part in text.split(" / ")]) if isinstance(text, str) else None
    if not is_torn_day(sheets):
        raise NoText("no torn sheets are so written")
    return sheets
