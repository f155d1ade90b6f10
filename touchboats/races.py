"""A race: its events, its sheet, and an order or a reason why there is none."""

from touchboats.rows import exchanged, is_boat, rises


def is_drop(thing):
    """Whether it is the event of a boat that drops out."""
    if not isinstance(thing, tuple) or len(thing) != 2:
        return False
    word, boat = thing
    return isinstance(word, str) and word == "drop" and is_boat(boat)


def is_touch(thing):
    """Whether it is the event of a boat that touches another one."""
    if not isinstance(thing, tuple) or len(thing) != 3:
        return False
    word, x, y = thing
    if not isinstance(word, str) or word != "touch":
        return False
    return is_boat(x) and is_boat(y) and x != y


def is_event(thing):
    """Whether it is a drop or a touch."""
    return is_drop(thing) or is_touch(thing)


def is_sheet(thing):
    """Whether it is a rising tuple of events."""
    if not isinstance(thing, tuple) or not all([is_event(part) for part in thing]):
        return False
    return rises(thing)


def sheet_of(events):
    """The sheet of these events."""
    return tuple(sorted(set(events)))


def boats_of(events):
    """The boats of these events, one as often as it stands there."""
    return [boat for event in events for boat in event[1:]]


def touches_of(events):
    """Those of these events that are touches."""
    return [event for event in events if event[0] == "touch"]


def between(start, touch):
    """The boats between a touch's two in the start, whichever is ahead."""
    low, high = sorted([start.index(touch[1]), start.index(touch[2])])
    return start[low + 1:high]


def is_wrong(start, touch):
    """Whether the touched boat isn't ahead."""
    return start.index(touch[2]) > start.index(touch[1])


def is_far(start, reach, touch):
    """Whether more than reach boats are between a touch's two."""
    return len(between(start, touch)) > reach


def is_cross(start, one, other):
    """Whether two touches of four unlike boats cross one another."""
    if len(set(boats_of((one, other)))) != 4:
        return False
    inner = between(start, one)
    return (other[1] in inner) != (other[2] in inner)


def can_be(start, reach, inside, event):
    """Whether the event can be; inside has the boats that are in."""
    if not all([boat in inside for boat in event[1:]]):
        return False
    if event[0] == "drop":
        return True
    if is_wrong(start, event) or is_far(start, reach, event):
        return False
    return not any([boat in inside for boat in between(start, event)])


def gone_by(start, reach, events):
    """The row behind these events in just this order, or the first that can't be."""
    inside = {boat: True for boat in start}
    for k, event in enumerate(events):
        if not can_be(start, reach, inside, event):
            return ("stuck", k)
        for boat in event[1:]:
            del inside[boat]
    return ("course", row_behind(start, events))


def row_behind(start, sheet):
    """The row behind a sound sheet."""
    row = start
    for touch in touches_of(sheet):
        row = exchanged(row, start.index(touch[1]), start.index(touch[2]))
    return row


def boat_reason(start, sheet):
    """A reason that a single boat gives, or None."""
    boats = boats_of(sheet)
    for boat in boats:
        if boat not in start:
            return ("strange", boat)
        if boats.count(boat) > 1:
            return ("twice", boat)
    return None


def touch_reason(start, reach, sheet, touch):
    """A reason that a touch gives by itself, or None."""
    if is_wrong(start, touch):
        return ("wrong", touch)
    if is_far(start, reach, touch):
        return ("far", touch)
    boats = boats_of(sheet)
    for boat in between(start, touch):
        if boat not in boats:
            return ("stays", touch, boat)
    return None


def cross_reason(start, touch, touches):
    """A reason that a touch gives beside the others, or None."""
    for other in touches:
        if is_cross(start, touch, other):
            return ("cross", touch, other)
    return None


def reason_of(start, reach, sheet):
    """A reason why the sheet isn't sound, or None where it is."""
    reason = boat_reason(start, sheet)
    # Only where each boat is of the start can touches be held against it.
    if reason is not None:
        return reason
    touches = touches_of(sheet)
    for touch in touches:
        reason = touch_reason(start, reach, sheet, touch) or cross_reason(start, touch, touches)
        if reason is not None:
            return reason
    return None


def order_of(start, reach, sheet):
    """A course of just the sheet's events, or a reason why there is none."""
    reason = reason_of(start, reach, sheet)
    if reason is not None:
        return ("unsound", reason)
    # Touches that don't cross are beside or within one another: drops go first,
    # then the inner touches, so that all between are out when the outer ones come.
    drops = [event for event in sheet if event[0] == "drop"]
    inner_first = sorted(touches_of(sheet), key=lambda touch: len(between(start, touch)))
    return ("course", tuple(drops + inner_first))
