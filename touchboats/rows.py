"""Boats, rows and meetings."""

MOST_LETTERS = 8
MOST_BOATS = 24
MOST_SIZE = 8
MOST_REACH = 7


def is_whole(thing, low, high):
    """Whether it is a whole number from low to high; a truth is none."""
    if not isinstance(thing, int) or isinstance(thing, bool):
        return False
    return low <= thing <= high


def is_text(thing, text):
    """Whether it is just this text."""
    return isinstance(thing, str) and thing == text


def rises(parts):
    """Whether each of these is more than the one ahead of it."""
    return all([one < other for one, other in zip(parts, parts[1:])])


def is_boat(thing):
    """Whether it is a boat's name."""
    if not isinstance(thing, str) or not 1 <= len(thing) <= MOST_LETTERS:
        return False
    return all(["a" <= sign <= "z" for sign in thing])


def is_row(thing):
    """Whether it is a tuple of 1 to 24 unlike boats."""
    if not isinstance(thing, tuple) or not 1 <= len(thing) <= MOST_BOATS:
        return False
    if not all([is_boat(part) for part in thing]):
        return False
    return len(set(thing)) == len(thing)


def is_meeting(thing):
    """Whether it is (size, reach), both within their bounds."""
    if not isinstance(thing, tuple) or len(thing) != 2:
        return False
    size, reach = thing
    return is_whole(size, 1, MOST_SIZE) and is_whole(reach, 0, MOST_REACH)


def races_of(meeting, n):
    """How many races n boats have."""
    size = meeting[0]
    return (n + size - 1) // size


def span(meeting, n, k):
    """The first and the last place of race k of n boats."""
    size = meeting[0]
    first = k * size
    # Behind the last division there is no head that could go again.
    return (first, min(first + size, n - 1))


def exchanged(row, one, other):
    """The row with the boats of these two places exchanged."""
    boats = list(row)
    boats[one], boats[other] = row[other], row[one]
    return tuple(boats)
