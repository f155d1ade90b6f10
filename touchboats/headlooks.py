"""A look at who can be head behind so many days and who can't, whoever made it."""

from touchboats.days import day_behind, is_day, starts_of
from touchboats.heads import places_behind, places_of
from touchboats.rows import is_text, is_whole, rises


def rests_on(meeting, row, resting, day):
    """Whether each resting boat drops out in each race of a sound day in which it starts."""
    return all([
        boat not in start or ("drop", boat) in sheet
        for start, sheet in zip(starts_of(meeting, row, day), day)
        for boat in resting
    ])


def shows_can(meeting, row, resting, many, boat, thing):
    """Whether it is a tuple of so many days behind which the boat is head."""
    if not isinstance(thing, tuple) or len(thing) != many or not all([is_day(part) for part in thing]):
        return False
    stands = row
    for day in thing:
        told = day_behind(meeting, stands, day)
        if told[0] != "row" or not rests_on(meeting, stands, resting, day):
            return False
        stands = told[1]
    return stands[0] == boat


def is_rising_places(n, thing):
    """Whether it is a rising tuple of places of n."""
    if not isinstance(thing, tuple) or not all([is_whole(part, 0, n - 1) for part in thing]):
        return False
    return rises(thing)


def holds_behind(meeting, row, resting, ahead, places):
    """Whether these have all places behind a day of each of those ahead."""
    rests = places_of(row, resting)
    return all([q in places for p in ahead for q in places_behind(meeting, len(row), rests, p)])


def shows_cannot(meeting, row, resting, many, boat, thing):
    """Whether it has places for each morning that the boat doesn't leave, the head's not among the last ones."""
    if not isinstance(thing, tuple) or len(thing) != many + 1:
        return False
    if not all([is_rising_places(len(row), part) for part in thing]):
        return False
    if row.index(boat) not in thing[0] or 0 in thing[-1]:
        return False
    return all([holds_behind(meeting, row, resting, ahead, places) for ahead, places in zip(thing, thing[1:])])


def shows_head(meeting, row, resting, many, boat, thing):
    """Whether it shows that the boat can be head behind so many days, or that it can't."""
    if not isinstance(thing, tuple) or len(thing) != 2:
        return False
    word, told = thing
    if is_text(word, "can"):
        return shows_can(meeting, row, resting, many, boat, told)
    return is_text(word, "cannot") and shows_cannot(meeting, row, resting, many, boat, told)
