"""A look at a reason why a sheet isn't sound, whoever made it."""

from touchboats.races import between, boats_of, is_cross, is_far, is_touch, is_wrong
from touchboats.rows import is_boat


def shows_boat(start, sheet, word, thing):
    """Whether it is a boat that is strange, or in two events."""
    if not is_boat(thing):
        return False
    boats = boats_of(sheet)
    if word == "strange":
        return thing in boats and thing not in start
    return boats.count(thing) > 1


def is_known(start, sheet, thing):
    """Whether it is a touch of the sheet, of two boats of the start."""
    if not is_touch(thing) or thing not in sheet:
        return False
    return thing[1] in start and thing[2] in start


def shows_touch(start, reach, sheet, word, thing):
    """Whether it is a touch that is wrong, or far."""
    if not is_known(start, sheet, thing):
        return False
    if word == "wrong":
        return is_wrong(start, thing)
    return is_far(start, reach, thing)


def shows_stays(start, sheet, touch, thing):
    """Whether it is a boat between the touch's two that is in no event."""
    if not is_known(start, sheet, touch) or not is_boat(thing):
        return False
    return thing in between(start, touch) and thing not in boats_of(sheet)


def shows_cross(start, sheet, one, other):
    """Whether they are two touches that cross one another."""
    if not is_known(start, sheet, one) or not is_known(start, sheet, other):
        return False
    return is_cross(start, one, other)


def shows_unsound(start, reach, sheet, thing):
    """Whether it is a reason why the sheet isn't sound."""
    if not isinstance(thing, tuple) or len(thing) not in (2, 3) or not isinstance(thing[0], str):
        return False
    word, *parts = thing
    if len(parts) == 1 and word in ("strange", "twice"):
        return shows_boat(start, sheet, word, parts[0])
    if len(parts) == 1 and word in ("wrong", "far"):
        return shows_touch(start, reach, sheet, word, parts[0])
    if len(parts) == 2 and word == "stays":
        return shows_stays(start, sheet, parts[0], parts[1])
    if len(parts) == 2 and word == "cross":
        return shows_cross(start, sheet, parts[0], parts[1])
    return False
