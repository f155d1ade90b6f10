"""What the tests share: odd things of any kind, and slow answers by the document's words alone.

Nothing here draws from the package, so a fault there can't hide itself here.
"""

import functools
import itertools
import re

NAMES = tuple(a + b for a in "abcde" for b in "abcde")


class Agreeable:
    """Says that it is like anything."""

    __hash__ = None

    def __eq__(self, other):
        return True

    def __ne__(self, other):
        return False


class Touchy:
    """Fails at whatever is asked of it beyond what kind it is."""

    def fail(self, *args):
        raise RuntimeError("asked")

    __eq__ = __ne__ = __lt__ = __hash__ = __bool__ = __len__ = __iter__ = __getitem__ = __contains__ = fail


def row_of(many):
    return NAMES[:many]


def nested(thing, depth, wrap):
    for _ in range(depth):
        thing = wrap(thing)
    return thing


def leaves():
    return [
        None, True, False, 0, 1, 2, 7, 8, -1, 10 ** 40, "", "a", "b", "z", "ab", "A", "a\n", "drop", "touch",
        "u", "t", "d", "o", "tu", "strange", "twice", "wrong", "far", "stays", "cross", "untold", "told", "from",
        "round", "some", "none", "mark", "boat", "chart", "wall", "lacks", "not",
        "pairs", "rounds", "table", "can", "cannot",
        b"", b"a", b"drop", bytearray(b"a"), [], {}, set(), frozenset(), (), object(), len, int, str, range(3),
        Ellipsis, NotImplemented, Agreeable(), Touchy(), {"a": 1}, {"a"}, iter(()), ("a",), ["a"], ("drop", "a"),
        ["drop", "a"], ("touch", "a", "b"), ["touch", "a", "b"],
    ]


WRAPS = [
    lambda thing: [thing],
    lambda thing: (thing,),
    lambda thing: (thing, thing),
    lambda thing: [thing, thing],
    lambda thing: ("drop", thing),
    lambda thing: ("touch", "a", thing),
    lambda thing: ("cross", thing, thing),
    lambda thing: {"a": thing},
]


def odd_things():
    """Things of any kind, nested to thirty deep."""
    things = leaves()
    for wrap in WRAPS:
        for core in (None, "a", (), [], {}, 1, True, ("drop", "a")):
            for depth in (1, 2, 3, 29):
                things.append(nested(core, depth, wrap))
    return things


def deep_things():
    """A few odd things, for where each one is put in many places."""
    return leaves() + [nested("a", 28, wrap) for wrap in WRAPS]


def spoiled(thing):
    """The nested tuple with one part put otherwise, left out, doubled, exchanged, or its tuple made a list."""
    if not isinstance(thing, tuple):
        return
    yield list(thing)
    for at in range(len(thing) + 1):
        for odd in deep_things():
            yield thing[:at] + (odd,) + thing[at:]
            if at < len(thing):
                yield thing[:at] + (odd,) + thing[at + 1:]
    for at, part in enumerate(thing):
        yield thing[:at] + thing[at + 1:]
        yield thing[:at] + (part, part) + thing[at + 1:]
        for other in spoiled(part):
            yield thing[:at] + (other,) + thing[at + 1:]
        for later in range(at + 1, len(thing)):
            yield thing[:at] + (thing[later],) + thing[at + 1:later] + (part,) + thing[later + 1:]


def is_plain(thing):
    """Whether it is made of tuples, whole numbers, texts and None alone."""
    if type(thing) is tuple:
        return all(is_plain(part) for part in thing)
    return thing is None or type(thing) in (int, str)


def plainly_boat(thing):
    return type(thing) is str and re.fullmatch("[a-z]{1,8}", thing) is not None


def plainly_boats(thing):
    return type(thing) is tuple and all(plainly_boat(part) for part in thing)


def plainly_event(thing):
    if type(thing) is not tuple or not thing or type(thing[0]) is not str or not plainly_boats(thing[1:]):
        return False
    return (thing[0], len(set(thing[1:])), len(thing)) in (("drop", 1, 2), ("touch", 2, 3))


def plainly_sheet(thing):
    if type(thing) is not tuple or not all(plainly_event(part) for part in thing):
        return False
    return list(thing) == sorted(set(thing))


def plainly_can(start, reach, outs, event):
    """Point 6: whether the event can be where just the boats of outs are out."""
    boats = event[1:]
    if any(boat not in start or boat in outs for boat in boats):
        return False
    if event[0] == "drop":
        return True
    behind, ahead = start.index(boats[0]), start.index(boats[1])
    gap = [start[place] for place in range(ahead + 1, behind)]
    return ahead < behind and len(gap) <= reach and all(boat in outs for boat in gap)


def plainly_gone(start, reach, events):
    """Point 6: what gone_by tells."""
    outs = set()
    row = list(start)
    for k, event in enumerate(events):
        if not plainly_can(start, reach, outs, event):
            return ("stuck", k)
        outs.update(event[1:])
        if event[0] == "touch":
            one, other = start.index(event[1]), start.index(event[2])
            row[one], row[other] = row[other], row[one]
    return ("course", tuple(row))


def all_events(boats):
    return [("drop", x) for x in boats] + [("touch", x, y) for x in boats for y in boats if x != y]


def all_sheets(boats):
    """All sheets of events of these boats."""
    events = sorted(all_events(boats))
    for many in range(len(events) + 1):
        yield from itertools.combinations(events, many)


def sheets_once(boats):
    """All sheets of these boats in which no boat is in two events."""
    def grown(left):
        if not left:
            yield ()
            return
        first, others = left[0], left[1:]
        for rest in grown(others):
            yield rest
            yield rest + (("drop", first),)
        for other in others:
            for rest in grown([boat for boat in others if boat != other]):
                yield rest + (("touch", first, other),)
                yield rest + (("touch", other, first),)

    for events in grown(list(boats)):
        yield tuple(sorted(events))


def sound_sheets(start, reach):
    """Point 7: each sound sheet with the row behind it, grown event by event from the empty course."""
    found = {(): tuple(start)}
    fresh = [()]
    while fresh:
        grown = []
        for sheet in fresh:
            outs = {boat for event in sheet for boat in event[1:]}
            for event in all_events(start):
                if not plainly_can(start, reach, outs, event):
                    continue
                more = tuple(sorted(sheet + (event,)))
                if more not in found:
                    row = list(found[sheet])
                    if event[0] == "touch":
                        one, other = start.index(event[1]), start.index(event[2])
                        row[one], row[other] = row[other], row[one]
                    found[more] = tuple(row)
                    grown.append(more)
        fresh = grown
    return found


def plainly_reason(start, reach, sheet, reason):
    """Point 8: whether it is a reason why the sheet isn't sound."""
    if type(reason) is not tuple or len(reason) < 2 or type(reason[0]) is not str:
        return False
    word, parts = reason[0], reason[1:]
    events_with = lambda x: [event for event in sheet if x in event[1:]]
    if word in ("strange", "twice"):
        if len(parts) != 1 or not plainly_boat(parts[0]):
            return False
        if word == "twice":
            return len(events_with(parts[0])) > 1
        return len(events_with(parts[0])) > 0 and parts[0] not in start

    def touch_of_it(e):
        return plainly_event(e) and e[0] == "touch" and e in sheet and e[1] in start and e[2] in start

    if not touch_of_it(parts[0]):
        return False
    e = parts[0]
    places = [start.index(e[1]), start.index(e[2])]
    inner = [start[place] for place in range(min(places) + 1, max(places))]
    if word in ("wrong", "far") and len(parts) == 1:
        return places[0] < places[1] if word == "wrong" else len(inner) > reach
    if word == "stays" and len(parts) == 2:
        return plainly_boat(parts[1]) and parts[1] in inner and not events_with(parts[1])
    if word == "cross" and len(parts) == 2 and touch_of_it(parts[1]):
        g = parts[1]
        return len({*e[1:], *g[1:]}) == 4 and [g[1] in inner, g[2] in inner].count(True) == 1
    return False


def plainly_word(reach, thing):
    """Point 9: whether it is a word, by looking for each "u" that closes a "t"."""
    if type(thing) is not tuple or not 1 <= len(thing) <= 24:
        return False
    if not all(type(mark) is str and mark in ("u", "t", "d", "o") for mark in thing):
        return False
    closed = plainly_closed(thing)
    if closed is None or len(closed) != thing.count("t"):
        return False
    return all(u - t - 1 <= reach and "o" not in thing[t:u] for t, u in closed)


def plainly_closed(word):
    """The pairs of places of each "u" with the last "t" ahead that is not closed yet; None where one closes nothing."""
    pairs = []
    for u, mark in enumerate(word):
        if mark == "u":
            left = [t for t in range(u) if word[t] == "t" and t not in [pair[0] for pair in pairs]]
            if not left:
                return None
            pairs.append((left[-1], u))
    return pairs


def plainly_races(meeting, n):
    """Point 5: the places of each race, its last division's too."""
    heads = list(range(0, n, meeting[0]))
    return [list(range(head, min(head + meeting[0] + 1, n))) for head in heads]


def plainly_day(meeting, row, day):
    """Point 11: what becomes of a sound day: the row of the next morning and the starts, from race 0 on."""
    stands = list(row)
    starts = []
    for places, sheet in reversed(list(zip(plainly_races(meeting, len(row)), day, strict=True))):
        start = [stands[place] for place in places]
        starts.insert(0, tuple(start))
        for event in sheet:
            if event[0] == "touch":
                one, other = places[start.index(event[1])], places[start.index(event[2])]
                stands[one], stands[other] = start[other - places[0]], start[one - places[0]]
    return tuple(stands), tuple(starts)


def sound_days(meeting, row):
    """All sound days, the races being gone through from the last one on."""
    races = plainly_races(meeting, len(row))

    def grown(stands, k):
        if k < 0:
            yield ()
            return
        first, last = races[k][0], races[k][-1]
        for sheet, behind in sound_sheets(stands[first:last + 1], meeting[1]).items():
            for day in grown(stands[:first] + behind + stands[last + 1:], k - 1):
                yield day + (sheet,)

    return grown(row, len(races) - 1)


def drawn_row(chance, many):
    row = list(row_of(many))
    chance.shuffle(row)
    return tuple(row)


def drawn_sheet(chance, start, reach):
    """Point 6: a sound sheet, by a course that goes on for a while."""
    events = []
    outs = set()
    while chance.random() < 0.9:
        can = [event for event in all_events(start) if plainly_can(start, reach, outs, event)]
        if not can:
            break
        # There are more touches than drops at first, and wide ones only where many dropped out.
        word = chance.choice(sorted({event[0] for event in can}))
        event = chance.choice([event for event in can if event[0] == word])
        events.append(event)
        outs.update(event[1:])
    return tuple(sorted(events))


def drawn_day(chance, meeting, row):
    """Point 11: a sound day."""
    stands = row
    day = ()
    for places in reversed(plainly_races(meeting, len(row))):
        start = stands[places[0]:places[-1] + 1]
        sheet = drawn_sheet(chance, start, meeting[1])
        stands = stands[:places[0]] + plainly_behind(start, sheet) + stands[places[-1] + 1:]
        day = (sheet,) + day
    return day


def plainly_behind(start, sheet):
    """Point 6: the row behind a sound sheet."""
    row = list(start)
    for event in sheet:
        if event[0] == "touch":
            row[start.index(event[1])], row[start.index(event[2])] = event[2], event[1]
    return tuple(row)


def plainly_sound(start, reach, sheet):
    """Point 7: whether the sheet is sound.

    Where each boat is in one event alone, an event that can be can still be later: so
    whichever can be is taken till none is left.
    """
    boats = [boat for event in sheet for boat in event[1:]]
    if len(set(boats)) != len(boats):
        return False
    outs = set()
    left = list(sheet)
    while left:
        can = [event for event in left if plainly_can(start, reach, outs, event)]
        if not can:
            return False
        outs.update(can[0][1:])
        left.remove(can[0])
    return True


def plainly_exchanges(start, goal):
    """The touches of the boat ahead of all two that the goal has exchanged; None where it isn't made so."""
    touches = []
    for place, (x, y) in enumerate(zip(goal, start, strict=True)):
        if goal[start.index(x)] != y:
            return None
        if start.index(x) > place:
            touches.append(("touch", x, y))
    return sorted(touches)


def plainly_leads(start, reach, goal):
    """Whether a sound sheet leads from the start to the goal: the one in which all others drop out."""
    touches = plainly_exchanges(start, goal)
    if touches is None:
        return False
    others = [boat for place, boat in enumerate(start) if goal[place] == boat]
    return plainly_sound(start, reach, touches + [("drop", boat) for boat in others])


def plainly_goal(places, k, start, other):
    """Point 14: the boats from elsewhere that race k would need, and its goal where there are none."""
    wanted = [other[place] for place in places]
    if k > 0:
        strangers = [boat for boat in wanted[1:] if boat not in start]
        if strangers:
            return strangers, None
        (wanted[0],) = [boat for boat in start if boat not in wanted[1:]]
    return [], tuple(wanted)


def plainly_untold(meeting, row, other, thing):
    """Point 14: whether it is a whole ("untold", k, reason)."""
    races = plainly_races(meeting, len(row))
    if type(thing) is not tuple or len(thing) != 3 or type(thing[0]) is not str or thing[0] != "untold":
        return False
    if type(thing[1]) is not int or not 0 <= thing[1] < len(races):
        return False
    stands = row
    for k in range(len(races) - 1, thing[1], -1):
        start = stands[races[k][0]:races[k][-1] + 1]
        strangers, goal = plainly_goal(races[k], k, start, other)
        if strangers or not plainly_leads(start, meeting[1], goal):
            return False
        stands = stands[:races[k][0]] + goal + stands[races[k][-1] + 1:]
    places = races[thing[1]]
    start = stands[places[0]:places[-1] + 1]
    return plainly_untold_reason(start, meeting[1], *plainly_goal(places, thing[1], start, other), thing[2])


def plainly_untold_reason(start, reach, strangers, goal, reason):
    if type(reason) is not tuple or not 2 <= len(reason) <= 3 or type(reason[0]) is not str:
        return False
    word, parts = reason[0], reason[1:]
    if strangers or word == "from":
        return word == "from" and len(parts) == 1 and plainly_boat(parts[0]) and parts[0] in strangers
    rounds = []
    for p, x in enumerate(start):
        q = goal.index(x)
        if goal[p] != start[q]:
            rounds.append(x)
    if rounds or word == "round":
        return word == "round" and len(parts) == 1 and plainly_boat(parts[0]) and parts[0] in rounds
    if not all(plainly_event(part) and part in plainly_exchanges(start, goal) for part in parts):
        return False
    # These touches are of boats of the start, and a sheet of them alone makes both sorts of reason as in 8.
    if (word, len(parts)) not in (("far", 1), ("cross", 2)):
        return False
    return plainly_reason(start, reach, tuple(sorted(set(parts))), reason)


def subsets(things):
    return itertools.chain.from_iterable(itertools.combinations(things, many) for many in range(len(things) + 1))


@functools.lru_cache(maxsize=None)
def plainly_words(many, reach):
    """Point 10: the rising tuple of all words, by going through all tuples of marks."""
    return tuple(word for word in itertools.product("dotu", repeat=many) if plainly_word(reach, word))


def plainly_row_by(start, word):
    """Point 9: the row behind the sheet whose word it is."""
    row = list(start)
    for t, u in plainly_closed(word):
        row[t], row[u] = row[u], row[t]
    return tuple(row)


def plainly_fits(start, reach, torn, thing):
    """Point 15: whether it is a word that fits."""
    if not plainly_word(reach, thing) or len(thing) != len(start):
        return False
    told = zip(torn[0] + torn[1], thing + plainly_row_by(start, thing), strict=True)
    return all(one is None or one == other for one, other in told)


def plainly_agreed(tuples):
    """What all of them have at each place, or None."""
    return tuple(parts[0] if len(set(parts)) == 1 else None for parts in zip(*tuples, strict=True))


def plainly_mended(start, reach, torn, thing):
    """Point 15: whether it is what mended may tell."""
    words = [word for word in plainly_words(len(start), reach) if plainly_fits(start, reach, torn, word)]
    if type(thing) is not tuple or not thing or type(thing[0]) is not str:
        return False
    if not words:
        return len(thing) == 1 and thing[0] == "none"
    if thing[0] != "some" or len(thing) != 4 or not all(type(part) is tuple for part in thing[1:]):
        return False
    if not all(part is None or type(part) is str for part in thing[1] + thing[2]):
        return False
    marks, row = plainly_agreed(words), plainly_agreed([plainly_row_by(start, word) for word in words])
    asked = [("mark", place) for place, mark in enumerate(marks) if mark is None]
    asked += [("boat", place) for place, boat in enumerate(row) if boat is None]
    if thing[1] != marks or thing[2] != row or len(thing[3]) != len(asked):
        return False
    return all(plainly_differ(start, reach, torn, paper, *told) for paper, told in zip(thing[3], asked))


def plainly_differ(start, reach, torn, paper, kind, place):
    if type(paper) is not tuple or len(paper) != 4 or type(paper[0]) is not str or paper[0] != kind:
        return False
    if type(paper[1]) is not int or paper[1] != place:
        return False
    if not all(plainly_fits(start, reach, torn, part) for part in paper[2:]):
        return False
    if kind == "mark":
        return paper[2][place] != paper[3][place]
    return plainly_row_by(start, paper[2])[place] != plainly_row_by(start, paper[3])[place]


def drawn_torn(chance, start, word, much):
    """A torn sheet that the word fits, with about so much of ten told."""
    def tear(parts):
        return tuple(part if chance.random() * 10 < much else None for part in parts)

    return (tear(word), tear(plainly_row_by(start, word)))


@functools.lru_cache(maxsize=None)
def plainly_ways(meeting, n):
    """Point 11: each (row, touches) of a sound day, of boats called by their places on its morning."""
    names = row_of(n)
    found = set()
    for day in sound_days(meeting, names):
        touches = [(names.index(e[1]), names.index(e[2])) for sheet in day for e in sheet if e[0] == "touch"]
        behind = plainly_day(meeting, names, day)[0]
        found.add((tuple(names.index(boat) for boat in behind), frozenset(touches)))
    return tuple(sorted(found, key=lambda way: (way[0], sorted(way[1]))))


def plainly_moves(meeting, row):
    """Each row that a sound day makes of this one, with the pairs (x, y) of its touches."""
    for places, touches in plainly_ways(meeting, len(row)):
        yield tuple(row[place] for place in places), frozenset((row[x], row[y]) for x, y in touches)


def plainly_stands(mornings, ban, m, row):
    """Whether the row fits torn row m, and keeps the ban."""
    if not all(told is None or told == boat for told, boat in zip(mornings[1][m], row, strict=True)):
        return False
    return ban is None or ban[:2] != ("not", m) or row[ban[2]] != ban[3]


def plainly_lets(ban, m, touches):
    """Whether a day m of these touches keeps the ban."""
    return ban is None or ban[:2] != ("lacks", m) or tuple(ban[2:]) not in touches


def plainly_charts(meeting, mornings, ban=None):
    """Point 16: the rows, and the touches of each day, of all charts that keep the ban."""
    def grown(rows, days):
        m = len(days)
        if m == len(mornings[1]) - 1:
            yield rows, days
            return
        for behind, touches in plainly_moves(meeting, rows[-1]):
            if plainly_lets(ban, m, touches) and plainly_stands(mornings, ban, m + 1, behind):
                yield from grown(rows + (behind,), days + (touches,))

    for row in itertools.permutations(mornings[0]):
        if plainly_stands(mornings, ban, 0, row):
            yield from grown((row,), ())


def plainly_reached(meeting, mornings, ban):
    """For each torn row the set of the rows at which a chart that keeps the ban so far can stand."""
    sets = [{row for row in itertools.permutations(mornings[0]) if plainly_stands(mornings, ban, 0, row)}]
    for m in range(len(mornings[1]) - 1):
        sets.append({
            behind for row in sets[-1] for behind, touches in plainly_moves(meeting, row)
            if plainly_lets(ban, m, touches) and plainly_stands(mornings, ban, m + 1, behind)
        })
    return sets


def plainly_all_boats(boats, thing):
    """Whether it is a row of all these boats."""
    return plainly_boats(thing) and sorted(thing) == sorted(boats)


def plainly_rows(meeting, mornings, thing):
    """Point 16: the rows and the days' touches of what has a chart's form and sound days; None else."""
    boats, torn = mornings
    if type(thing) is not tuple or len(thing) != 2 or not plainly_all_boats(boats, thing[0]):
        return None
    if type(thing[1]) is not tuple or len(thing[1]) != len(torn) - 1:
        return None
    rows, days = [thing[0]], []
    races = plainly_races(meeting, len(boats))
    for day in thing[1]:
        if type(day) is not tuple or len(day) != len(races) or not all(plainly_sheet(sheet) for sheet in day):
            return None
        stands = rows[-1]
        for places, sheet in reversed(list(zip(races, day))):
            start = stands[places[0]:places[-1] + 1]
            if not plainly_sound(start, meeting[1], sheet):
                return None
            stands = stands[:places[0]] + plainly_behind(start, sheet) + stands[places[-1] + 1:]
        rows.append(stands)
        days.append({event[1:] for sheet in day for event in sheet if event[0] == "touch"})
    return rows, days


def plainly_chart(meeting, mornings, ban, thing):
    """Point 16: whether it is a chart that keeps the ban."""
    told = plainly_rows(meeting, mornings, thing)
    if told is None:
        return False
    if not all(plainly_stands(mornings, ban, m, row) for m, row in enumerate(told[0])):
        return False
    return all(plainly_lets(ban, m, touches) for m, touches in enumerate(told[1]))


def plainly_stop(meeting, mornings, ban, thing):
    """Point 17: whether it is a wall."""
    boats, torn = mornings
    if type(thing) is not tuple or len(thing) != len(torn):
        return False
    for rows in thing:
        if type(rows) is not tuple or not all(plainly_all_boats(boats, row) for row in rows):
            return False
        if list(rows) != sorted(set(rows)):
            return False
    if thing[-1] != ():
        return False
    for row in itertools.permutations(boats):
        if plainly_stands(mornings, ban, 0, row) and row not in thing[0]:
            return False
    for m, (ahead, rows) in enumerate(zip(thing, thing[1:])):
        for row in ahead:
            for behind, touches in plainly_moves(meeting, row):
                if plainly_lets(ban, m, touches) and plainly_stands(mornings, ban, m + 1, behind):
                    if behind not in rows:
                        return False
    return True


def drawn_chart(chance, meeting, n, many):
    """The rows of so many mornings, a sound day between each two, and these days."""
    rows, days = [drawn_row(chance, n)], []
    while len(rows) < many:
        days.append(drawn_day(chance, meeting, rows[-1]))
        rows.append(plainly_day(meeting, rows[-1], days[-1])[0])
    return tuple(rows), tuple(days)


def drawn_mornings(chance, rows, much):
    """Mornings of these rows with about so much of ten told."""
    torn = tuple(tuple(boat if chance.random() * 10 < much else None for boat in row) for row in rows)
    return (tuple(sorted(rows[0])), torn)


def drawn_ban(chance, mornings):
    boats, torn = mornings
    if len(boats) > 1 and chance.random() < 0.5:
        return ("lacks", chance.randrange(len(torn) - 1), *chance.sample(boats, 2))
    return ("not", chance.randrange(len(torn)), chance.randrange(len(boats)), chance.choice(boats))


def all_bans(mornings):
    boats, torn = mornings
    bans = [None]
    bans += [("lacks", m, *pair) for m in range(len(torn) - 1) for pair in itertools.permutations(boats, 2)]
    bans += [("not", m, p, x) for m in range(len(torn)) for p in range(len(boats)) for x in boats]
    return bans


def all_mornings(boats, many):
    """All mornings of these boats and so many torn rows."""
    torn = list(itertools.product((None,) + boats, repeat=len(boats)))
    return [(boats, rows) for rows in itertools.product(torn, repeat=many)]


def plainly_places(meeting, n):
    """Point 19: the rising list of the pairs of places that a touch can exchange, by looking at all pairs."""
    races = plainly_races(meeting, n)
    pairs = [(p, q) for p in range(n) for q in range(n) if p < q]
    return [(p, q) for p, q in pairs if q - p - 1 <= meeting[1] and any(p in race and q in race for race in races)]


def plainly_exchanged(row, p, q):
    boats = list(row)
    boats[p], boats[q] = boats[q], boats[p]
    return tuple(boats)


def plainly_apart(row, other):
    """Point 19: how many pairs of boats stand the other way about."""
    pairs = itertools.combinations(row, 2)
    return sum(other.index(behind) < other.index(ahead) for ahead, behind in pairs)


def plainly_rounds(row, other):
    """Point 19: how many rounds there are, each the set of all boats that are in it."""
    rounds = set()
    for first in row:
        boats, at = [first], other[row.index(first)]
        while at != first:
            boats.append(at)
            at = other[row.index(at)]
        rounds.add(frozenset(boats))
    return len(rounds)


@functools.lru_cache(maxsize=None)
def plainly_far(meeting, n):
    """How few touches lead from each row of 0 to n - 1 to the rising one, by going through all rows."""
    far = {tuple(range(n)): 0}
    fresh = list(far)
    while fresh:
        row = fresh.pop(0)
        for p, q in plainly_places(meeting, n):
            behind = plainly_exchanged(row, p, q)
            if behind not in far:
                far[behind] = far[row] + 1
                fresh.append(behind)
    return far


def plainly_few(meeting, row, other):
    """Point 20: how few touches lead from row to other, of few boats."""
    return plainly_far(meeting, len(row))[tuple(other.index(boat) for boat in row)]


def plainly_walked(meeting, row, touches):
    """Point 20: the row to which these touches lead; None where one can't be."""
    stands = row
    for x, y in touches:
        if x not in stands or y not in stands:
            return None
        pair = (stands.index(y), stands.index(x))
        if pair not in plainly_places(meeting, len(row)):
            return None
        stands = plainly_exchanged(stands, *pair)
    return stands


def plainly_papers(meeting, n):
    """Point 20: the sorts of paper that may stand."""
    size, reach = meeting
    sorts = ["pairs"] if reach == 0 else []
    sorts += ["rounds"] if n <= size and n <= reach + 2 else []
    return sorts + (["table"] if n <= 5 else [])


def plainly_table(meeting, row, other, many, numbers):
    """Point 20: whether it is a table."""
    rows = sorted(itertools.permutations(row))
    if type(numbers) is not tuple or len(numbers) != len(rows):
        return False
    if not all(type(number) is int and number >= 0 for number in numbers):
        return False
    table = dict(zip(rows, numbers))
    if table[row] != many or table[other] != 0:
        return False
    pairs = [(one, plainly_exchanged(one, p, q)) for one in rows for p, q in plainly_places(meeting, len(row))]
    return all(-1 <= table[one] - table[next_one] <= 1 for one, next_one in pairs)


def plainly_fewest(meeting, row, other, thing):
    """Point 20: whether it is what fewest may tell."""
    if type(thing) is not tuple or len(thing) != 3:
        return False
    many, touches, paper = thing
    if type(many) is not int or type(touches) is not tuple or len(touches) != many:
        return False
    if not all(plainly_boats(touch) and len(touch) == 2 for touch in touches):
        return False
    if plainly_walked(meeting, row, touches) != other or type(paper) is not tuple or not paper:
        return False
    n = len(row)
    if type(paper[0]) is not str or paper[0] not in plainly_papers(meeting, n):
        return False
    if paper[0] == "table":
        return len(paper) == 2 and plainly_table(meeting, row, other, many, paper[1])
    return len(paper) == 1 and many == (
        plainly_apart(row, other) if paper[0] == "pairs" else n - plainly_rounds(row, other))


def plainly_rest(starts, day):
    """The boats that drop out in each race of the day in which they start."""
    boats = {boat for start in starts for boat in start}
    return {
        boat for boat in boats
        if all(boat not in start or ("drop", boat) in sheet for start, sheet in zip(starts, day, strict=True))
    }


@functools.lru_cache(maxsize=None)
def plainly_rest_ways(meeting, n):
    """Each (row, who rests) of a sound day, boats called by their places on its morning, the most resting."""
    names = row_of(n)
    found = set()
    for day in sound_days(meeting, names):
        behind, starts = plainly_day(meeting, names, day)
        rest = frozenset(names.index(boat) for boat in plainly_rest(starts, day))
        found.add((tuple(names.index(boat) for boat in behind), rest))
    return found


@functools.lru_cache(maxsize=None)
def plainly_resting_rows(meeting, n, places):
    """Point 21: the rows behind all sound days in which those of places drop out in each race in which they start."""
    return {row for row, rest in plainly_rest_ways(meeting, n) if rest.issuperset(places)}


def plainly_places_behind(meeting, n, places, p):
    """Point 21: race by race, from the last one."""
    if p in places:
        return (p,)
    stands = {p}
    for race in reversed(plainly_races(meeting, n)):
        free = [q for q in race if q not in places]
        stands |= {q for at in stands if at in race for q in free if max(q - at, at - q) <= meeting[1] + 1}
    return tuple(sorted(stands))


def plainly_heads(meeting, row, resting, many):
    """Point 22: who can be head, by going through all sound days."""
    rows = {row}
    for _ in range(many):
        grown = set()
        for stands in rows:
            places = tuple(p for p, boat in enumerate(stands) if boat in resting)
            ways = plainly_resting_rows(meeting, len(row), places)
            grown |= {tuple(stands[place] for place in way) for way in ways}
        rows = grown
    return {stands[0] for stands in rows}


def plainly_head(meeting, row, resting, many, boat, thing):
    """Point 22: whether it is such a thing of the boat."""
    if type(thing) is not tuple or len(thing) != 2 or type(thing[0]) is not str or type(thing[1]) is not tuple:
        return False
    word, parts = thing
    if word == "can":
        # A chart of mornings of which nothing is told.
        torn = (tuple(sorted(row)), ((None,) * len(row),) * (many + 1))
        told = plainly_rows(meeting, torn, (row, parts))
        if told is None or told[0][-1][0] != boat:
            return False
        return all(plainly_rest(plainly_day(meeting, stands, day)[1], day).issuperset(resting)
                   for stands, day in zip(told[0], parts))
    if word != "cannot" or len(parts) != many + 1:
        return False
    for part in parts:
        if type(part) is not tuple or not all(type(p) is int and 0 <= p < len(row) for p in part):
            return False
        if list(part) != sorted(set(part)):
            return False
    rests = [p for p, one in enumerate(row) if one in resting]
    for ahead, part in zip(parts, parts[1:]):
        if not all(set(plainly_places_behind(meeting, len(row), rests, p)) <= set(part) for p in ahead):
            return False
    return row.index(boat) in parts[0] and 0 not in parts[-1]


def drawn_resting(chance, row):
    """Some of these boats, at times none or all, rising."""
    many = chance.choice((0, 1, 2, chance.randint(0, len(row)), len(row)))
    return tuple(sorted(chance.sample(row, min(many, len(row)))))


def plainly_number(thing, most):
    return type(thing) is int and 0 <= thing <= most


def plainly_is_day(thing):
    """Point 11: whether it is a tuple of 1 to 24 sheets."""
    return type(thing) is tuple and 1 <= len(thing) <= 24 and all(plainly_sheet(part) for part in thing)


def plainly_is_torn(thing):
    """Point 23: whether it is a tuple of 1 to 24 torn sheets."""
    if type(thing) is not tuple or not 1 <= len(thing) <= 24:
        return False
    for part in thing:
        if type(part) is not tuple or [type(one) for one in part] != [tuple, tuple]:
            return False
        marks, behind = part
        if len(marks) != len(behind) or len(marks) not in range(1, 10):
            return False
        if not all(mark is None or type(mark) is str and re.fullmatch("[udot]", mark) for mark in marks):
            return False
        if not all(boat is None or plainly_boat(boat) for boat in behind):
            return False
    return True


def plainly_crew(thing):
    """Point 23: whether it is a tuple of none to 24 unlike boats."""
    return plainly_boats(thing) and len(set(thing)) == len(thing) <= 24


def plainly_told_page(meeting, row, day):
    """Point 24: of a day told by tell how it is, its evening, and (k, start) of the race that isn't sound."""
    races = plainly_races(meeting, len(row))
    if len(day) != len(races):
        return ("struck", row, (None, None))
    stands = row
    for k in range(len(races) - 1, -1, -1):
        first, last = races[k][0], races[k][-1]
        start = stands[first:last + 1]
        if not plainly_sound(start, meeting[1], day[k]):
            return ("struck", row, (k, start))
        stands = stands[:first] + plainly_behind(start, day[k]) + stands[last + 1:]
    return ("sound", stands, None)


def plainly_torn_page(meeting, row, sheets):
    """Point 24: likewise of a torn one, with what why tells."""
    races = plainly_races(meeting, len(row))
    if len(sheets) != len(races):
        return ("struck", row, (None, None))
    stands = row
    for k in range(len(races) - 1, -1, -1):
        start = tuple(stands[place] for place in races[k])
        if len(sheets[k][0]) != len(start):
            return ("struck", row, (k, None))
        if len(start) > 7:
            return ("open", None, None)
        words = plainly_words(len(start), meeting[1])
        rows = {plainly_row_by(start, word) for word in words if plainly_fits(start, meeting[1], sheets[k], word)}
        if not rows:
            return ("struck", row, (k, None))
        if len(rows) > 1:
            return ("open", None, None)
        stands = stands[:races[k][0]] + rows.pop() + stands[races[k][-1] + 1:]
    return ("whole", stands, None)


def plainly_turn_page(row, goes, comes):
    """Point 25."""
    left = [boat for boat in row if boat not in goes] + list(comes)
    if set(goes) - set(row) or set(comes) & set(row) or len(left) not in range(1, 25):
        return ("struck", row)
    return ("sound", tuple(left))


def plainly_book(meeting, row, days, turns):
    """Points 24 to 26: all that a book answers of which this is told and stands.

    days has ("tell", day) or ("torn", sheets), turns has (goes, comes). Of a day that is struck and told by tell
    whys has (k, start) of the race that isn't sound.
    """
    told = {"morning": [row], "evening": [], "state": [], "turned": [], "whys": []}
    for d in range(16):
        stands = told["morning"][d]
        page = ("untold", None, None)
        if d in days:
            kind, thing = days[d]
            page = ("waits", None, None)
            if stands is not None:
                page = (plainly_told_page if kind == "tell" else plainly_torn_page)(meeting, stands, thing)
        for name, part in zip(("state", "evening", "whys"), page):
            told[name].append(part)
        stands = page[1]
        if d in (3, 7, 11):
            page = ("untold", None)
            if d // 4 in turns:
                page = ("waits", None) if stands is None else plainly_turn_page(stands, *turns[d // 4])
            told["turned"].append(page[0])
            stands = page[1]
        told["morning"].append(stands)
    told["told"] = (tuple(sorted(days)), tuple(sorted(turns)))
    return told


def asked_of(book):
    """All that a book answers."""
    return {
        "morning": [book.morning(d) for d in range(17)], "evening": [book.evening(d) for d in range(16)],
        "state": [book.state(d) for d in range(16)], "turned": [book.turned(y) for y in range(3)],
        "why": [book.why(d) for d in range(16)], "told": book.told(),
    }


def plainly_why(meeting, row, telling, page, why):
    """Point 26: whether why may be told of a day of this morning, by what plainly_book tells of it."""
    if page[0] != "struck":
        return why is None
    if telling[0] == "torn":
        return why == page[1]
    k, start = page[1]
    if type(why) is not tuple or len(why) != 2 or why[0] != k or type(why[0]) is bool:
        return False
    if k is None:
        return why[1] == ("races", len(plainly_races(meeting, len(row))))
    return plainly_reason(start, meeting[1], telling[1][k], why[1])


def drawn_torn_day(chance, meeting, row, much):
    """Torn sheets of each race, each fitted by a word, with about so much of ten told."""
    stands, sheets = row, ()
    for places in reversed(plainly_races(meeting, len(row))):
        start = tuple(stands[place] for place in places)
        word = chance.choice(plainly_words(len(start), meeting[1])) if len(start) <= 7 else ("o",) * len(start)
        sheets = (drawn_torn(chance, start, word, much),) + sheets
        stands = stands[:places[0]] + plainly_row_by(start, word) + stands[places[-1] + 1:]
    return sheets


NAME = "[a-z]{1,8}"
PATTERNS = {
    "row": f"{NAME}(?: {NAME})*",
    "event": f"(?:{NAME}>{NAME}|{NAME}!)",
    "torn": f"[udot?]+(?: (?:{NAME}|[?]))+",
}
PATTERNS["sheet"] = "(?:-|{event}(?: {event})*)".format(**PATTERNS)


def plainly_read_row(text):
    """Point 27: the row that is so written, or None."""
    if type(text) is not str or not re.fullmatch(PATTERNS["row"], text):
        return None
    row = tuple(text.split())
    return row if len(set(row)) == len(row) <= 24 else None


def plainly_read_day(text):
    """Point 27: likewise."""
    if type(text) is not str or not re.fullmatch("{sheet}(?: / {sheet})*".format(**PATTERNS), text):
        return None
    day = []
    for part in text.split("/"):
        words = [re.findall(NAME, word) for word in part.split() if word != "-"]
        day.append(tuple(("drop", *boats) if len(boats) == 1 else ("touch", *boats) for boats in words))
    return tuple(day) if plainly_is_day(tuple(day)) else None


def plainly_shown_sheet(sheet):
    shown = [f"{event[1]}!" if event[0] == "drop" else f"{event[1]}>{event[2]}" for event in sheet]
    return " ".join(shown) if shown else "-"


def plainly_shown_day(day):
    return " / ".join(plainly_shown_sheet(sheet) for sheet in day)


def plainly_read_torn(text):
    """Point 27: likewise."""
    if type(text) is not str or not re.fullmatch("{torn}(?: / {torn})*".format(**PATTERNS), text):
        return None
    sheets = []
    for part in text.split(" / "):
        words = part.split()
        sheets.append(tuple(tuple(None if one == "?" else one for one in parts) for parts in (words[0], words[1:])))
    return tuple(sheets) if plainly_is_torn(tuple(sheets)) else None


DAY_NUMBER, TURN_NUMBER, SIDE = "(0|[1-9]|1[0-5])", "([0-2])", "(-|" + PATTERNS["row"] + ")"
LINES = {
    "tell": f"{DAY_NUMBER} (.*)", "torn": f"{DAY_NUMBER} (.*)", "turn": f"{TURN_NUMBER} {SIDE} / {SIDE}",
    "untell": DAY_NUMBER, "unturn": TURN_NUMBER, "morning": DAY_NUMBER, "evening": DAY_NUMBER, "state": DAY_NUMBER,
    "turned": TURN_NUMBER, "deeds": f"{DAY_NUMBER} ({NAME})", "touches": DAY_NUMBER, "free": DAY_NUMBER,
    "few": f"{DAY_NUMBER} {DAY_NUMBER}", "heads": f"{DAY_NUMBER} ([0-4])((?: {NAME}){{0,24}})",
}


def plainly_line(line):
    """Point 28: the word and the parts of a line, or None where it is none."""
    if type(line) is not str:
        return None
    for word, form in LINES.items():
        found = re.fullmatch(f"{word} {form}", line, re.DOTALL)
        if found:
            return plainly_parts(word, found.groups())
    return None


def plainly_parts(word, parts):
    """The parts of a line of this word as what they are, or None where one is none."""
    reads = {"tell": plainly_read_day, "torn": plainly_read_torn}
    told = [int(parts[0])]
    if word in reads:
        told.append(reads[word](parts[1]))
    elif word == "turn":
        told += [() if part == "-" else plainly_read_row(part) for part in parts[1:]]
    elif word == "heads":
        told += [int(parts[1]), tuple(parts[2].split())]
    elif word == "few":
        told.append(int(parts[1]))
    elif word == "deeds":
        told.append(parts[1])
    return None if None in told else (word, *told)
