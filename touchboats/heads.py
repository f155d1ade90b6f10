"""Heads: who can be head behind so many days, some boats resting.

Who rests drops out wherever it starts and so keeps its place, day by day; each
other boat may go race by race from place to place, whatever the others do.
"""

from touchboats.days import raced, start_on
from touchboats.races import sheet_of
from touchboats.rows import races_of, span


def places_of(row, resting):
    """The rising tuple of the places that rest."""
    return tuple([p for p, boat in enumerate(row) if boat in resting])


def places_next(meeting, n, places, k, p):
    """The places at which the boat of place p may stand behind race k."""
    first, last = span(meeting, n, k)
    if p in places or not first <= p <= last:
        return [p]
    return [q for q in range(first, last + 1) if q not in places and abs(q - p) - 1 <= meeting[1]]


def ways_behind(meeting, n, places, p):
    """For each place at which the boat of place p may stand behind a day a way there.

    A way has the boat's place behind each race, from race 0 on, and then p.
    """
    ways = {p: (p,)}
    for k in reversed(range(races_of(meeting, n))):
        grown = {}
        for at, way in ways.items():
            for behind in places_next(meeting, n, places, k, at):
                grown[behind] = (behind,) + way
        ways = grown
    return ways


def places_behind(meeting, n, places, p):
    """The rising tuple of the places at which the boat of place p may stand behind a day."""
    return tuple(sorted(ways_behind(meeting, n, places, p)))


def sheet_on(meeting, row, resting, k, one, other):
    """A sheet of race k by which the boats of these two places exchange, or of one place stays."""
    low, high = sorted([one, other])
    events = [("drop", boat) for boat in start_on(meeting, row, k) if boat in resting]
    events += [("drop", boat) for boat in row[low + 1:high]]
    if low < high:
        events.append(("touch", row[high], row[low]))
    return sheet_of(events)


def day_on(meeting, row, resting, way):
    """A day on which a boat goes this way, and the row behind it."""
    stands = row
    sheets = []
    for k in reversed(range(len(way) - 1)):
        sheet = sheet_on(meeting, stands, resting, k, way[k + 1], way[k])
        stands = raced(meeting, stands, k, sheet)
        sheets.append(sheet)
    return (tuple(sheets[::-1]), stands)


def trails_of(ways, p, many):
    """For 0 to many days the places at which the boat of place p may stand behind them, each with a trail there.

    ways has what ways_behind tells of each place; a trail has the boat's places, morning by morning.
    """
    trails = [{p: (p,)}]
    for m in range(many):
        grown = {}
        for at, trail in trails[m].items():
            for behind in ways[at]:
                grown[behind] = trail + (behind,)
        trails.append(grown)
    return trails


def days_on(meeting, row, resting, ways, trail):
    """Days on which a boat goes this trail."""
    stands = row
    days = []
    for at, behind in zip(trail, trail[1:]):
        day, stands = day_on(meeting, stands, resting, ways[at][behind])
        days.append(day)
    return tuple(days)


def heads_of(meeting, row, resting, many):
    """Each boat in the row's order with days behind which it is head, or places beyond which none lead it."""
    places = places_of(row, resting)
    ways = [ways_behind(meeting, len(row), places, p) for p in range(len(row))]
    heads = []
    for p, boat in enumerate(row):
        trails = trails_of(ways, p, many)
        if 0 in trails[many]:
            heads.append((boat, ("can", days_on(meeting, row, resting, ways, trails[many][0]))))
        else:
            heads.append((boat, ("cannot", tuple([tuple(sorted(part)) for part in trails]))))
    return tuple(heads)
