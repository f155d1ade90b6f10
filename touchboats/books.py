"""A book of four years of four days, told late, torn, taken back and told again.

Its days and turns, in the order in which they come, are its steps. What is
written on a step's page hangs on what is told of that step and on the row
behind the step ahead alone, so not on when it was told.
"""

from touchboats.days import day_behind, is_day, put_on, start_on
from touchboats.errors import BadTell, NotTold, Told
from touchboats.mending import is_torn_day, row_by, words_that_fit
from touchboats.rows import is_row, is_whole, races_of

YEAR = 4
LAST_DAY = 15
LAST_TURN = 2
MOST_MENDED = 7


def day_step(d):
    """The step of day d: the days and turns ahead of it."""
    return d + d // YEAR


def turn_step(y):
    """The step of turn y, behind the last day of year y."""
    return day_step(y * YEAR + YEAR - 1) + 1


def are_unlike_boats(thing):
    """Whether it is a tuple of none to 24 unlike boats."""
    return isinstance(thing, tuple) and (len(thing) == 0 or is_row(thing))


def told_page(meeting, row, day):
    """The page of a day that is told whole: how it is, the row behind it, and why it is struck."""
    told = day_behind(meeting, row, day)
    if told[0] == "row":
        return ("sound", told[1], None)
    return ("struck", row, told[1:])


def torn_race(start, reach, torn):
    """How a torn race is, and the row behind it where there is but one."""
    if len(torn[0]) != len(start):
        return ("struck", None)
    if len(start) > MOST_MENDED:
        return ("open", None)
    rows = sorted({row_by(start, word) for word in words_that_fit(start, reach, torn)})
    if len(rows) == 1:
        return ("whole", rows[0])
    return ("open", None) if rows else ("struck", None)


def torn_page(meeting, row, sheets):
    """The page of a day that is told torn."""
    if len(sheets) != races_of(meeting, len(row)):
        return ("struck", row, (None, None))
    stands = row
    for k in reversed(range(len(sheets))):
        word, behind = torn_race(start_on(meeting, stands, k), meeting[1], sheets[k])
        if word == "struck":
            return ("struck", row, (k, None))
        if word == "open":
            return ("open", None, None)
        stands = put_on(meeting, stands, k, behind)
    return ("whole", stands, None)


def turn_page(row, goes, comes):
    """The page of a turn that is told."""
    behind = tuple([boat for boat in row if boat not in goes]) + comes
    known = all([boat in row for boat in goes]) and not any([boat in row for boat in comes])
    if known and is_row(behind):
        return ("sound", behind, None)
    return ("struck", row, None)


def page_of(meeting, row, telling):
    """The page of a step: row stands ahead of it, or None; telling is what is told of it, or None."""
    if telling is None:
        return ("untold", None, None)
    if row is None:
        return ("waits", None, None)
    if telling[0] == "day":
        return told_page(meeting, row, telling[1])
    if telling[0] == "torn":
        return torn_page(meeting, row, telling[1])
    return turn_page(row, telling[1], telling[2])


class Book:
    """What is told of the days and turns, and what comes of it."""

    def __init__(self, meeting, row):
        self.meeting = meeting
        self.first_row = row
        self.tellings = {}
        # Those that were asked for, from the first step on, as long as they hold.
        self.pages = []

    def tell(self, d, day):
        """Day d was so."""
        if not is_whole(d, 0, LAST_DAY) or not is_day(day):
            raise BadTell("tell takes a day's number and a day")
        self.keep(day_step(d), ("day", day))

    def torn(self, d, sheets):
        """Of day d there are these torn sheets."""
        if not is_whole(d, 0, LAST_DAY) or not is_torn_day(sheets):
            raise BadTell("torn takes a day's number and a torn sheet for each race")
        self.keep(day_step(d), ("torn", sheets))

    def turn(self, y, goes, comes):
        """At turn y these boats went and came."""
        if not is_whole(y, 0, LAST_TURN) or not are_unlike_boats(goes) or not are_unlike_boats(comes):
            raise BadTell("turn takes a turn's number and two tuples of unlike boats")
        self.keep(turn_step(y), ("turn", goes, comes))

    def untell(self, d):
        """What was told of day d is taken back."""
        if not is_whole(d, 0, LAST_DAY):
            raise BadTell("untell takes a day's number")
        self.take_back(day_step(d))

    def unturn(self, y):
        """What was told of turn y is taken back."""
        if not is_whole(y, 0, LAST_TURN):
            raise BadTell("unturn takes a turn's number")
        self.take_back(turn_step(y))

    def keep(self, step, telling):
        """From now on this is told of the step."""
        if step in self.tellings:
            raise Told("it is told and not taken back")
        self.tellings[step] = telling
        self.pages = self.pages[:step]

    def take_back(self, step):
        """From now on nothing is told of the step."""
        if step not in self.tellings:
            raise NotTold("it is not told")
        self.tellings.pop(step)
        self.pages = self.pages[:step]

    def row_ahead(self, step):
        """The row ahead of a step whose pages ahead are written, or None."""
        return self.first_row if step == 0 else self.pages[step - 1][1]

    def page(self, step):
        """The page of the step: how it is, the row behind it or None, and why it is struck or None."""
        while len(self.pages) <= step:
            at = len(self.pages)
            self.pages.append(page_of(self.meeting, self.row_ahead(at), self.tellings.get(at)))
        return self.pages[step]

    def morning(self, d):
        """The row of the morning of day d, or None; behind the last day its evening."""
        if d == 0:
            return self.first_row
        if d > LAST_DAY:
            return self.evening(LAST_DAY)
        return self.page(day_step(d) - 1)[1]

    def evening(self, d):
        """The row of the evening of day d, or None."""
        return self.page(day_step(d))[1]

    def state(self, d):
        """How day d is."""
        return self.page(day_step(d))[0]

    def turned(self, y):
        """How turn y is."""
        return self.page(turn_step(y))[0]

    def why(self, d):
        """The race and the reason why day d is struck; None where it isn't."""
        return self.page(day_step(d))[2]

    def thing_told(self, d):
        """The day, or the torn sheets, that is told of day d."""
        return self.tellings[day_step(d)][1]

    def told(self):
        """The days and the turns that are told."""
        days = [d for d in range(LAST_DAY + 1) if day_step(d) in self.tellings]
        turns = [y for y in range(LAST_TURN + 1) if turn_step(y) in self.tellings]
        return (tuple(days), tuple(turns))
