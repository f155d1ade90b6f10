"""What is in each chart of torn mornings, and what only in some."""

from touchboats.charts import chart_of, moves_of
from touchboats.days import day_behind


def touches_asked(mornings):
    """Each (m, x, y) that a chart could have, rising."""
    boats, torn = mornings
    return [(m, x, y) for m in range(len(torn) - 1) for x in boats for y in boats if x != y]


def musts_of(meeting, mornings):
    """The touches that each chart has, and those that only some have."""
    moves = moves_of(meeting, mornings[0])
    found = chart_of(moves, mornings, None)
    if found[0] == "wall":
        return found
    musts = []
    mays = []
    for touch in touches_asked(mornings):
        lacking, told = chart_of(moves, mornings, ("lacks",) + touch)
        if lacking == "wall":
            musts.append((touch, told))
            continue
        having, chart = chart_of(moves, mornings, ("has",) + touch)
        if having == "chart":
            mays.append((touch, chart, told))
    return ("must", tuple(musts), tuple(mays))


def rows_by(meeting, chart):
    """The rows of a chart, morning by morning."""
    rows = [chart[0]]
    for day in chart[1]:
        rows.append(day_behind(meeting, rows[-1], day)[1])
    return rows


def paper_at(moves, mornings, chart, m, p, boat):
    """Whether the boat, which stands there in this chart, stands there in each: a wall, or two charts."""
    word, told = chart_of(moves, mornings, ("not", m, p, boat))
    if word == "wall":
        return (m, p, word, told)
    return (m, p, "charts", (chart, told))


def sures_of(meeting, mornings):
    """The boat that stands at each place in each chart, with a paper for each torn place."""
    moves = moves_of(meeting, mornings[0])
    word, chart = chart_of(moves, mornings, None)
    if word == "wall":
        return (word, chart)
    stands = rows_by(meeting, chart)
    papers = [
        paper_at(moves, mornings, chart, m, p, stands[m][p])
        for m, torn in enumerate(mornings[1])
        for p, told in enumerate(torn)
        if told is None
    ]
    unsure = [paper[:2] for paper in papers if paper[2] == "charts"]
    rows = [
        tuple([None if (m, p) in unsure else boat for p, boat in enumerate(row)])
        for m, row in enumerate(stands)
    ]
    return ("sure", tuple(rows), tuple(papers))
