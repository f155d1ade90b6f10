"""A look at why no day leads from one morning to another, whoever made it."""

from touchboats.races import is_touch
from touchboats.rows import is_boat, is_whole, races_of
from touchboats.tellings import told_upward


def has_reason_form(thing):
    """Whether it is a word ahead of boats and touches."""
    if not isinstance(thing, tuple) or not 2 <= len(thing) <= 3 or not isinstance(thing[0], str):
        return False
    return all([is_boat(part) or is_touch(part) for part in thing[1:]])


def has_untold_form(many, thing):
    """Whether it is a word, a number below so many and what may be a reason."""
    if not isinstance(thing, tuple) or len(thing) != 3:
        return False
    word, k, reason = thing
    return isinstance(word, str) and is_whole(k, 0, many - 1) and has_reason_form(reason)


def shows_untold(meeting, row, other, thing):
    """Whether it says why no sound day leads there."""
    # Only what has the form is compared: else a truth would pass for a number.
    if not has_untold_form(races_of(meeting, len(row)), thing):
        return False
    return thing in told_upward(meeting, row, other)[1]
