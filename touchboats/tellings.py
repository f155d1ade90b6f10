"""Two mornings: which touches and drops must have been between them, or why no day leads there.

A race's touches are told by its start and the row behind it, and its drops
leave no trace there: so the races are gone through as they go, from the last
one, each by the start that those ahead of it left.
"""

from touchboats.days import raced, start_on
from touchboats.races import between, boats_of, is_cross, is_far, sheet_of
from touchboats.rows import races_of


def from_reasons(meeting, start, other, k):
    """The boats that race k would have to bring from elsewhere, as reasons."""
    return [("from", x) for x in start_on(meeting, other, k)[1:] if x not in start]


def goal_of(meeting, start, other, k):
    """What race k has to make of its start, where it needn't bring a boat from elsewhere."""
    # The races above reach no further back than its first place, so all behind
    # that stand in other as this race left them. Race 0 has just the boats that
    # stand on its span in other, so the one that these leave is head there too.
    behind = start_on(meeting, other, k)[1:]
    return tuple([boat for boat in start if boat not in behind]) + behind


def goes_round(start, goal, x):
    """Whether the boat moves without exchanging its place with one other."""
    there = start[goal.index(x)]
    return goal.index(there) != start.index(x)


def round_reasons(start, goal):
    """The boats that go round, as reasons."""
    return [("round", x) for x in start if goes_round(start, goal, x)]


def touches_to(start, goal):
    """The rising tuple of the touches that lead to the goal, no boat going round."""
    return sheet_of([("touch", x, y) for x, y in zip(goal, start) if goal.index(x) < start.index(x)])


def touch_reasons(start, reach, touches):
    """Why these touches can't be of one race, as reasons."""
    reasons = [("far", e) for e in touches if is_far(start, reach, e)]
    reasons += [("cross", e, g) for e in touches for g in touches if is_cross(start, e, g)]
    return reasons


def reasons_at(meeting, start, other, k):
    """All reasons why race k can't be told; none where it can."""
    # A later sort of reason counts only where there is none of an earlier one.
    reasons = from_reasons(meeting, start, other, k)
    if reasons:
        return reasons
    goal = goal_of(meeting, start, other, k)
    return round_reasons(start, goal) or touch_reasons(start, meeting[1], touches_to(start, goal))


def race_told(start, touches):
    """A race's touches, who must have dropped out and who may have."""
    touching = boats_of(touches)
    passed = [boat for touch in touches for boat in between(start, touch)]
    others = sorted([boat for boat in start if boat not in touching])
    drops = [boat for boat in others if boat in passed]
    free = [boat for boat in others if boat not in passed]
    return (touches, tuple(drops), tuple(free))


def told_upward(meeting, row, other):
    """The races that can be told, from the last one on, and all ways to say why the next one can't be."""
    races = []
    stands = row
    for k in reversed(range(races_of(meeting, len(row)))):
        start = start_on(meeting, stands, k)
        reasons = reasons_at(meeting, start, other, k)
        if reasons:
            return (races, [("untold", k, reason) for reason in reasons])
        touches = touches_to(start, goal_of(meeting, start, other, k))
        races.append(race_told(start, touches))
        stands = raced(meeting, stands, k, touches)
    return (races, [])


def told_by(meeting, row, other):
    """What is told of each race, from race 0 on, or why no sound day leads there."""
    races, untold = told_upward(meeting, row, other)
    if untold:
        return untold[0]
    return ("told", tuple(races[::-1]))


def days_between(meeting, row, other):
    """How many sound days lead there."""
    told = told_by(meeting, row, other)
    if told[0] == "untold":
        return 0
    many = 1
    for race in told[1]:
        for boat in race[2]:
            many *= 2
    return many
