"""A look at the fewest touches, whoever made it."""

from touchboats.charts import all_rows
from touchboats.fewest import apart_by, may_count_pairs, may_count_rounds, may_have_table, rounds_of, touch_places
from touchboats.rows import exchanged, is_boat, is_text, is_whole


def is_pair_of(row, thing):
    """Whether it is a pair of boats of the row."""
    if not isinstance(thing, tuple) or len(thing) != 2:
        return False
    return all([is_boat(part) and part in row for part in thing])


def leads_there(meeting, row, other, pairs):
    """Whether these pairs of boats are touches, one behind the other, that lead from row to other."""
    places = touch_places(meeting, len(row))
    stands = row
    for x, y in pairs:
        ahead, behind = stands.index(y), stands.index(x)
        if (ahead, behind) not in places:
            return False
        stands = exchanged(stands, ahead, behind)
    return stands == other


def shows_touches(meeting, row, other, thing):
    """Whether it is a tuple of touches that lead from row to other."""
    if not isinstance(thing, tuple) or not all([is_pair_of(row, part) for part in thing]):
        return False
    return leads_there(meeting, row, other, thing)


def shows_table(meeting, row, other, many, thing):
    """Whether it has a number for each row by which no fewer than so many touches lead from row to other."""
    rows = all_rows(sorted(row))
    if not isinstance(thing, tuple) or len(thing) != len(rows):
        return False
    # Touches join all rows: from 0 by steps of 1 no number comes beyond the count of rows.
    if not all([is_whole(part, 0, len(rows)) for part in thing]):
        return False
    numbers = dict(zip(rows, thing))
    if numbers[row] != many or numbers[other] != 0:
        return False
    places = touch_places(meeting, len(row))
    return all([abs(numbers[one] - numbers[exchanged(one, p, q)]) <= 1 for one in rows for p, q in places])


def shows_paper(meeting, row, other, many, thing):
    """Whether it is a paper that may stand there and shows that no fewer than so many touches lead there."""
    if not isinstance(thing, tuple) or not 1 <= len(thing) <= 2:
        return False
    n = len(row)
    if len(thing) == 2:
        return is_text(thing[0], "table") and may_have_table(n) and shows_table(meeting, row, other, many, thing[1])
    if is_text(thing[0], "pairs"):
        return may_count_pairs(meeting) and many == apart_by(row, other)
    return is_text(thing[0], "rounds") and may_count_rounds(meeting, n) and many == n - rounds_of(row, other)


def shows_fewest(meeting, row, other, thing):
    """Whether it is how few touches lead from row to other, such touches, and a paper that no fewer do."""
    if not isinstance(thing, tuple) or len(thing) != 3:
        return False
    many, touches, paper = thing
    if not shows_touches(meeting, row, other, touches) or not is_whole(many, len(touches), len(touches)):
        return False
    return shows_paper(meeting, row, other, many, paper)
