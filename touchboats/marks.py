"""Marks: what became of each boat of a start, as a word."""

from touchboats.races import sheet_of
from touchboats.rows import MOST_BOATS

MARKS = ("d", "o", "t", "u")


def is_mark(thing):
    """Whether it is one of the four marks."""
    return isinstance(thing, str) and thing in MARKS


def is_word(reach, thing):
    """Whether it is a word by this reach."""
    if not isinstance(thing, tuple) or not 1 <= len(thing) <= MOST_BOATS:
        return False
    if not all([is_mark(part) for part in thing]):
        return False
    unclosed = []
    for place, mark in enumerate(thing):
        if mark == "t":
            unclosed.append(place)
        elif mark == "o" and unclosed:
            return False
        elif mark == "u":
            if not unclosed or place - unclosed.pop() - 1 > reach:
                return False
    return not unclosed


def marks_of(start, sheet):
    """The word of a sound sheet."""
    marks = {}
    for event in sheet:
        if event[0] == "drop":
            marks[event[1]] = "d"
        else:
            marks[event[1]] = "u"
            marks[event[2]] = "t"
    return tuple([marks.get(boat, "o") for boat in start])


def sheet_by(start, word):
    """The sheet whose word it is."""
    events = []
    unclosed = []
    for boat, mark in zip(start, word):
        if mark == "d":
            events.append(("drop", boat))
        elif mark == "t":
            unclosed.append(boat)
        elif mark == "u":
            events.append(("touch", boat, unclosed.pop()))
    return sheet_of(tuple(events))
