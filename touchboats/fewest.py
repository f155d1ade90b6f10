"""Fewest touches that lead from a row to another one, and a count that shows that no fewer do.

Each touch here exchanges two boats and nothing else, all between them dropping out.
"""

from touchboats.charts import all_rows
from touchboats.rows import exchanged, races_of, span

MOST_IN_TABLE = 5


def touch_places(meeting, n):
    """The rising tuple of all two places, (p, q), that a touch can exchange."""
    pairs = []
    for k in range(races_of(meeting, n)):
        first, last = span(meeting, n, k)
        for p in range(first, last):
            furthest = min(p + 1 + meeting[1], last)
            pairs += [(p, q) for q in range(p + 1, furthest + 1)]
    return tuple(pairs)


def apart_by(row, other):
    """How many pairs of boats stand the other way about."""
    goals = [other.index(boat) for boat in row]
    return len([1 for at, goal in enumerate(goals) for later in goals[at + 1:] if later < goal])


def rounds_of(row, other):
    """How many rounds there are from a boat to the one that stands in other where it stands in row."""
    seen = set()
    many = 0
    for boat in row:
        if boat not in seen:
            many += 1
        at = boat
        while at not in seen:
            seen.add(at)
            at = other[row.index(at)]
    return many


def may_count_pairs(meeting):
    """Whether touches are of neighbours alone, so that each turns just one pair about."""
    return meeting[1] == 0


def may_count_rounds(meeting, n):
    """Whether all two places can be exchanged, so that each touch makes one round more or fewer."""
    return n <= meeting[0] and n <= meeting[1] + 2


def may_have_table(n):
    """Whether a table of all rows may stand."""
    return n <= MOST_IN_TABLE


def is_few(meeting, n):
    """Whether the fewest touches of n boats are told at all."""
    return may_count_pairs(meeting) or may_count_rounds(meeting, n) or may_have_table(n)


def touches_by_pairs(row, other):
    """Touches of neighbours, each boat going up to its place, from the head on."""
    stands = row
    touches = []
    for place, boat in enumerate(other):
        for q in reversed(range(place, stands.index(boat))):
            touches.append((boat, stands[q]))
            stands = exchanged(stands, q, q + 1)
    return tuple(touches)


def touches_by_rounds(row, other):
    """Touches each of which brings a boat to its place at once, from the head on."""
    stands = row
    touches = []
    for place, boat in enumerate(other):
        if stands[place] != boat:
            touches.append((boat, stands[place]))
            stands = exchanged(stands, place, stands.index(boat))
    return tuple(touches)


def numbers_to(meeting, other):
    """For each row of these boats how few touches lead from there to other."""
    places = touch_places(meeting, len(other))
    numbers = {other: 0}
    fresh = [other]
    while fresh:
        grown = []
        for row in fresh:
            for p, q in places:
                # A touch parts two rows both ways: the boat that was touched may touch back.
                ahead = exchanged(row, p, q)
                if ahead not in numbers:
                    numbers[ahead] = numbers[row] + 1
                    grown.append(ahead)
        fresh = grown
    return numbers


def touches_by_numbers(meeting, row, numbers):
    """Touches each of which leads to a row of a lesser number, till there is none."""
    places = touch_places(meeting, len(row))
    stands = row
    touches = []
    while numbers[stands] > 0:
        nearer = [pair for pair in places if numbers[exchanged(stands, pair[0], pair[1])] < numbers[stands]]
        p, q = nearer[0]
        touches.append((stands[q], stands[p]))
        stands = exchanged(stands, p, q)
    return tuple(touches)


def fewest(meeting, row, other):
    """How few touches lead from row to other, such touches, and a paper that no fewer do."""
    if may_count_pairs(meeting):
        return (apart_by(row, other), touches_by_pairs(row, other), ("pairs",))
    if may_count_rounds(meeting, len(row)):
        return (len(row) - rounds_of(row, other), touches_by_rounds(row, other), ("rounds",))
    numbers = numbers_to(meeting, other)
    table = tuple([numbers[one] for one in all_rows(sorted(row))])
    return (numbers[row], touches_by_numbers(meeting, row, numbers), ("table", table))
