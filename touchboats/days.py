"""Days: the races of a morning's row, from the last one to race 0."""

from touchboats.races import is_sheet, order_of, row_behind
from touchboats.rows import MOST_BOATS, races_of, span


def is_day(thing):
    """Whether it is a tuple of 1 to 24 sheets."""
    # Divisions of one boat each make as many races as there are boats.
    if not isinstance(thing, tuple) or not 1 <= len(thing) <= MOST_BOATS:
        return False
    return all([is_sheet(part) for part in thing])


def start_on(meeting, row, k):
    """The boats that stand on the span of race k."""
    first, last = span(meeting, len(row), k)
    return row[first:last + 1]


def put_on(meeting, row, k, boats):
    """The row with these boats on the span of race k."""
    first, last = span(meeting, len(row), k)
    return row[:first] + boats + row[last + 1:]


def raced(meeting, row, k, sheet):
    """The row behind race k, its sheet being sound."""
    return put_on(meeting, row, k, row_behind(start_on(meeting, row, k), sheet))


def day_behind(meeting, row, day):
    """The row of the next morning, or why the day isn't sound."""
    many = races_of(meeting, len(row))
    if len(day) != many:
        return ("unsound", None, ("races", many))
    stands = row
    for k in reversed(range(many)):
        word, told = order_of(start_on(meeting, stands, k), meeting[1], day[k])
        if word == "unsound":
            return ("unsound", k, told)
        stands = raced(meeting, stands, k, day[k])
    return ("row", stands)


def starts_of(meeting, row, day):
    """The starts of a sound day's races, from race 0 on."""
    starts = []
    stands = row
    for k in reversed(range(len(day))):
        starts.append(start_on(meeting, stands, k))
        stands = raced(meeting, stands, k, day[k])
    return tuple(starts[::-1])
