"""Looks at charts and walls, whoever made them."""

from touchboats.charts import all_rows, keeps_day, may_stand, moves_from
from touchboats.days import day_behind, is_day
from touchboats.rows import is_row, rises


def is_row_of(boats, thing):
    """Whether it is a row of all these rising boats."""
    return is_row(thing) and sorted(thing) == list(boats)


def has_chart_form(mornings, thing):
    """Whether it is a row of all the boats and as many days as lead through the mornings."""
    boats, torn = mornings
    if not isinstance(thing, tuple) or len(thing) != 2:
        return False
    row, days = thing
    if not is_row_of(boats, row) or not isinstance(days, tuple) or len(days) != len(torn) - 1:
        return False
    return all([is_day(day) for day in days])


def shows_chart(meeting, mornings, ban, thing):
    """Whether it is a chart of the mornings that keeps the ban."""
    if not has_chart_form(mornings, thing):
        return False
    row, days = thing
    if not may_stand(mornings, ban, 0, row):
        return False
    for m, day in enumerate(days):
        told = day_behind(meeting, row, day)
        if told[0] != "row" or not keeps_day(ban, m, day) or not may_stand(mornings, ban, m + 1, told[1]):
            return False
        row = told[1]
    return True


def is_set(boats, thing):
    """Whether it is a rising tuple of rows of all these boats."""
    if not isinstance(thing, tuple) or not all([is_row_of(boats, part) for part in thing]):
        return False
    return rises(thing)


def has_wall_form(mornings, thing):
    """Whether it is a tuple with such a set for each torn row."""
    boats, torn = mornings
    if not isinstance(thing, tuple) or len(thing) != len(torn):
        return False
    return all([is_set(boats, part) for part in thing])


def holds_first(mornings, ban, rows):
    """Whether these have each row at which a chart can begin."""
    return all([row in rows for row in all_rows(mornings[0]) if may_stand(mornings, ban, 0, row)])


def holds_next(meeting, mornings, ban, m, ahead, rows):
    """Whether these have each row of morning m + 1 to which a day leads from those ahead."""
    held = set(rows)
    for row in ahead:
        for behind, day in moves_from(meeting, row):
            if keeps_day(ban, m, day) and may_stand(mornings, ban, m + 1, behind) and behind not in held:
                return False
    return True


def shows_stop(meeting, mornings, ban, thing):
    """Whether it is a wall that no chart passes that keeps the ban."""
    if not has_wall_form(mornings, thing) or len(thing[-1]) > 0:
        return False
    if not holds_first(mornings, ban, thing[0]):
        return False
    for m in range(len(thing) - 1):
        if not holds_next(meeting, mornings, ban, m, thing[m], thing[m + 1]):
            return False
    return True
