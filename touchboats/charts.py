"""Torn mornings: a chart of them, or a wall that none passes.

Rows are gone through morning by morning: those at which a chart can stand.
Where there are none at last, they are the wall themselves.
"""

from touchboats.days import raced, start_on
from touchboats.marks import sheet_by
from touchboats.mending import agrees
from touchboats.rows import races_of
from touchboats.wordcounts import all_words


def all_rows(boats):
    """All rows of these rising boats, rising."""
    rows = [()]
    for many in range(len(boats)):
        rows = [row + (boat,) for row in rows for boat in boats if boat not in row]
    return rows


def is_spare(word):
    """Whether no boat drops out but out of a touch's way."""
    unclosed = 0
    for mark in word:
        if mark == "t":
            unclosed += 1
        elif mark == "u":
            unclosed -= 1
        elif mark == "d" and unclosed == 0:
            return False
    return True


def spare_sheets(start, reach):
    """A sound sheet for each row to which sound sheets lead."""
    return [sheet_by(start, word) for word in all_words(len(start), reach) if is_spare(word)]


def moves_from(meeting, row):
    """Each row to which sound days lead, with one of these days."""
    # All days that lead to one row have the same touches, so one of them tells
    # whatever a ban can ask.
    moves = [(row, ())]
    for k in reversed(range(races_of(meeting, len(row)))):
        moves = [
            (raced(meeting, stands, k, sheet), (sheet,) + day)
            for stands, day in moves
            for sheet in spare_sheets(start_on(meeting, stands, k), meeting[1])
        ]
    return moves


def moves_of(meeting, boats):
    """The moves from each row of these boats."""
    return {row: moves_from(meeting, row) for row in all_rows(boats)}


def has_touch(day, x, y):
    """Whether x touches y in a race of the day."""
    return any([("touch", x, y) in sheet for sheet in day])


def keeps_day(ban, m, day):
    """Whether the ban lets day m be so."""
    if ban is None or ban[1] != m:
        return True
    if ban[0] == "lacks":
        return not has_touch(day, ban[2], ban[3])
    # The musts ask for a chart that has a touch, too.
    if ban[0] == "has":
        return has_touch(day, ban[2], ban[3])
    return True


def may_stand(mornings, ban, m, row):
    """Whether the row fits torn row m and the ban lets it be so."""
    if ban is not None and ban[0] == "not" and ban[1] == m and row[ban[2]] == ban[3]:
        return False
    return agrees(mornings[1][m], row)


def rows_next(moves, mornings, ban, m, rows):
    """The rows of morning m + 1, each with a row of those ahead and a day that leads from there."""
    found = {}
    for row in rows:
        for behind, day in moves[row]:
            if keeps_day(ban, m, day) and may_stand(mornings, ban, m + 1, behind):
                found[behind] = (row, day)
    return found


def chart_back(steps, last):
    """The chart that ends with this row; steps are what rows_next told, morning by morning."""
    row = last
    days = []
    for step in reversed(steps):
        row, day = step[row]
        days.append(day)
    return (row, tuple(days[::-1]))


def chart_of(moves, mornings, ban):
    """A chart by these moves that keeps the ban, or a wall."""
    rows = [row for row in moves if may_stand(mornings, ban, 0, row)]
    sets = [tuple(sorted(rows))]
    steps = []
    for m in range(len(mornings[1]) - 1):
        steps.append(rows_next(moves, mornings, ban, m, sets[m]))
        sets.append(tuple(sorted(steps[m])))
    if sets[-1]:
        return ("chart", chart_back(steps, sets[-1][0]))
    return ("wall", tuple(sets))


def chart_by(meeting, mornings, ban):
    """A chart of the mornings that keeps the ban, or a wall."""
    return chart_of(moves_of(meeting, mornings[0]), mornings, ban)
