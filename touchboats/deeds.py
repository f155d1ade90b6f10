"""Deeds: what each boat did on a day, race by race."""

from touchboats.days import starts_of
from touchboats.marks import marks_of
from touchboats.races import touches_of


def others_of(sheet):
    """The other boat of each boat that is in a touch."""
    others = {}
    for touch in touches_of(sheet):
        others[touch[1]] = touch[2]
        others[touch[2]] = touch[1]
    return others


def deeds_of(meeting, row, day):
    """Each boat in the row's order with its deeds of a sound day, in the order in which the races go."""
    starts = starts_of(meeting, row, day)
    deeds = {boat: [] for boat in row}
    for k in reversed(range(len(day))):
        others = others_of(day[k])
        for boat, mark in zip(starts[k], marks_of(starts[k], day[k])):
            deeds[boat].append((k, mark, others.get(boat)))
    return tuple([(boat, tuple(deeds[boat])) for boat in row])
