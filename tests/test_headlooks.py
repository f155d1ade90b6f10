"""A look at who can be head and who can't: the end of point 22."""

import copy
import itertools
import random
import unittest

from touchboats.headlooks import shows_head
from touchboats.heads import heads_of
from tests.helpers import (
    all_events, drawn_day, drawn_resting, drawn_row, odd_things, plainly_day, plainly_head, plainly_heads,
    plainly_places_behind, row_of, sound_days, spoiled, subsets,
)

MEETINGS = [(size, reach) for size in range(1, 9) for reach in range(8)]


def drop(x):
    return ("drop", x)


def touch(x, y):
    return ("touch", x, y)


class Case(unittest.TestCase):
    def check(self, meeting, row, resting, many, boat, thing):
        told = shows_head(meeting, row, resting, many, boat, thing)
        self.assertIs(told, plainly_head(meeting, row, resting, many, boat, thing), (meeting, row, resting, many, boat))
        return told


class DaysByHand(Case):
    ROW = ("a", "b", "c", "d")

    def looks(self, taken, boat, *things, meeting=(4, 1), resting=(), many=1):
        for thing in things:
            self.assertIs(self.check(meeting, self.ROW, resting, many, boat, thing), taken, thing)

    def test_one_day(self):
        over = (drop("b"), touch("c", "a"))
        self.looks(True, "c", ("can", ((over,),)), ("can", (((drop("b"), drop("d"), touch("c", "a")),),)))
        self.looks(True, "c", ("can", ((over,),)), resting=("b",))
        self.looks(False, "c", ("can", ((over,),)), meeting=(4, 0))
        self.looks(False, "c", ("can", (((touch("c", "a"),),),)), ("can", (((touch("b", "a"),),),)), ("can", (((),),)))
        for other in ("a", "b", "d"):
            self.looks(False, other, ("can", ((over,),)))

    def test_who_rests_drops_out(self):
        day = (touch("b", "a"),)
        rests = (drop("d"), touch("b", "a"))
        self.looks(True, "b", ("can", ((day,),)), ("can", ((rests,),)))
        self.looks(True, "b", ("can", ((rests,),)), resting=("d",))
        self.looks(False, "b", ("can", ((day,),)), resting=("d",))
        self.looks(False, "b", ("can", ((rests,),)), resting=("c", "d"))
        self.looks(False, "b", ("can", ((rests,),)), resting=("c",))
        self.looks(False, "b", ("can", ((rests,),)), resting=("b", "d"))
        self.looks(True, "a", ("can", (((drop("a"),),),)), resting=("a",))
        self.looks(False, "a", ("can", (((),),)), resting=("a",))

    def test_who_rests_drops_out_in_each_race_in_which_it_starts(self):
        # c goes in both races.
        both = ((drop("c"),), (drop("c"),))
        self.looks(True, "a", ("can", (both,)), meeting=(2, 0), resting=("c",))
        self.looks(False, "a", ("can", ((both[0], ()),)), ("can", (((), both[1]),)), ("can", (((), ()),)),
                   meeting=(2, 0), resting=("c",))
        # d goes in the lower race alone, unless it gets ahead there.
        self.looks(True, "a", ("can", (((), (drop("d"),)),)), meeting=(2, 0), resting=("d",))
        self.looks(False, "a", ("can", (((drop("d"),), (drop("d"),)),)), meeting=(2, 0), resting=("d",))
        self.looks(False, "a", ("can", (((drop("d"),), (touch("d", "c"),)),)), meeting=(2, 0), resting=("d",))

    def test_more_days(self):
        up = ((touch("c", "b"),),)
        head = ((touch("c", "a"),),)
        back = ((touch("a", "c"),),)
        none = ((),)
        self.looks(True, "c", ("can", (up, head)), many=2)
        self.looks(False, "c", ("can", (head, up)), ("can", (up,)), ("can", (up, head, none)), ("can", (up, up)), many=2)
        self.looks(True, "c", ("can", (up, head, none)), ("can", (none, up, head)), ("can", (up, none, head)), many=3)
        self.looks(True, "a", ("can", (up, head, back)), many=3)
        self.looks(False, "c", ("can", (up, head, back)), many=3)
        self.looks(False, "c", ("can", ((), head)), ("can", (up, ((), ()))), many=2)
        # Who rests does so on each of the days.
        rests = (((drop("d"), touch("c", "b")),), ((drop("d"), touch("c", "a")),))
        self.looks(True, "c", ("can", rests), many=2, resting=("d",))
        self.looks(False, "c", ("can", (up, rests[1])), ("can", (rests[0], head)), many=2, resting=("d",))

    def test_no_days(self):
        self.looks(True, "a", ("can", ()), many=0)
        self.looks(True, "a", ("can", ()), many=0, resting=("a", "b", "c", "d"))
        self.looks(False, "b", ("can", ()), many=0)
        self.looks(False, "a", ("can", (((),),)), ("can", []), ("can",), ("can", (), ()), ["can", ()], many=0)
        self.looks(False, "a", ("cannot", ()), ("cannot", ((0,),)), ("cannot", ((),)), ("cannot", ((1,),)), many=0)
        self.looks(True, "b", ("cannot", ((1,),)), ("cannot", ((1, 2, 3),)), many=0)
        self.looks(False, "b", ("cannot", ((0, 1),)), ("cannot", ((2,),)), ("cannot", ((1,), (1,))), many=0)


class PlacesByHand(Case):
    ROW = ("a", "b", "c", "d", "e", "f")
    SETS = ((5,), (4, 5), (3, 4, 5))

    def looks(self, taken, boat, *things, meeting=(6, 0), resting=(), many=2):
        for thing in things:
            self.assertIs(self.check(meeting, self.ROW, resting, many, boat, thing), taken, thing)

    def test_places(self):
        self.looks(True, "f", ("cannot", self.SETS))
        self.looks(False, "e", ("cannot", self.SETS))
        self.looks(False, "f", ("can", self.SETS), ("cannot", self.SETS[0]), ("cannot", *self.SETS), self.SETS)
        self.looks(False, "f", ("cannot", self.SETS), meeting=(6, 1))
        self.looks(False, "f", ("cannot", self.SETS), meeting=(1, 0))

    def test_places_more(self):
        for first in subsets(range(6)):
            for second in subsets(range(6)):
                taken = 5 in first and all(q in second for p in first for q in (p - 1, p, p + 1) if 0 <= q <= 5)
                closed = (first, second, (1, 2, 3, 4, 5))
                self.looks(taken and not {0, 1} & set(second), "f", ("cannot", closed))
        for last in subsets(range(6)):
            self.looks({3, 4, 5} <= set(last) and 0 not in last, "f", ("cannot", self.SETS[:2] + (last,)))

    def test_not_rising(self):
        for last in itertools.permutations((3, 4, 5)):
            self.looks(last == (3, 4, 5), "f", ("cannot", self.SETS[:2] + (last,)))
        self.looks(False, "f", ("cannot", ((5, 5),) + self.SETS[1:]), ("cannot", self.SETS[:2] + ((3, 4, 5, 5),)))

    def test_places_that_are_none(self):
        for place in (-1, 6, 10 ** 30, None, True, "5", b"", (5,), "f"):
            self.looks(False, "f", ("cannot", self.SETS[:2] + (self.SETS[2] + (place,),)))
            self.looks(False, "f", ("cannot", self.SETS[:2] + ((place,) + self.SETS[2],)))
        self.looks(False, "f", ("cannot", self.SETS[:2] + ((True, 3, 4, 5),)))
        self.looks(True, "f", ("cannot", self.SETS[:2] + ((1, 3, 4, 5),)))

    def test_sets_more_or_fewer(self):
        self.looks(False, "f", ("cannot", self.SETS[:2]), ("cannot", self.SETS[1:]), ("cannot", ()),
                   ("cannot", self.SETS + ((2, 3, 4, 5),)), ("cannot", self.SETS[:1] + self.SETS))
        self.looks(True, "f", ("cannot", self.SETS[:2]), many=1)
        self.looks(True, "f", ("cannot", self.SETS + ((2, 3, 4, 5),)), many=3)
        self.looks(False, "f", ("cannot", self.SETS + ((1, 2, 3, 4, 5),) * 2), many=4)
        self.looks(True, "f", ("cannot", self.SETS + ((2, 3, 4, 5), (1, 2, 3, 4, 5))), many=4)

    def test_resting(self):
        self.looks(True, "f", ("cannot", ((5,), (5,), (5,))), resting=("f",))
        self.looks(True, "f", ("cannot", ((5,), (5,), (5,))), resting=("e",))
        self.looks(False, "f", ("cannot", ((5,), (5,), (5,))), resting=("d",))
        self.looks(True, "f", ("cannot", ((5,), (4, 5), (4, 5))), resting=("d",))
        self.looks(True, "f", ("cannot", ((5,), (4, 5), (4, 5))), resting=("a", "d"))
        # d's place among them, which rests, leads nowhere else.
        self.looks(True, "f", ("cannot", ((3, 5), (3, 4, 5), (3, 4, 5))), resting=("d",))
        self.looks(False, "f", ("cannot", ((5,), (3, 5), (3, 5))), resting=("d",))


class AgainstTheWords(Case):
    def cases(self, seed, sizes):
        chance = random.Random(seed)
        for meeting in MEETINGS:
            for n in sizes:
                row = drawn_row(chance, n)
                yield chance, meeting, row, drawn_resting(chance, row), chance.randint(0, 4)

    def test_what_heads_of_tells_is_taken(self):
        for chance, meeting, row, resting, many in self.cases(90, (1, 2, 3, 4, 6, 9, 24)):
            told = heads_of(meeting, row, resting, many)
            for boat, thing in told:
                self.assertTrue(self.check(meeting, row, resting, many, boat, thing))
                # For another boat, another count of days, others resting, another meeting.
                another = chance.choice(row)
                taken = self.check(meeting, row, resting, many, another, thing)
                self.assertIs(taken, another == boat)
                self.check(meeting, row, drawn_resting(chance, row), many, boat, thing)
                self.check(chance.choice(MEETINGS), row, resting, many, boat, thing)
                for days in range(5):
                    if days != many:
                        self.assertFalse(self.check(meeting, row, resting, days, boat, thing))

    def test_a_thing_of_each_boat_just_where_it_is_so(self):
        sets = list(subsets(range(3)))
        for meeting in ((1, 0), (2, 0), (3, 0), (3, 1)):
            row = ("b", "c", "a")
            days = list(sound_days(meeting, row))
            for resting in subsets(sorted(row)):
                cans = plainly_heads(meeting, row, resting, 1)
                for boat in row:
                    can = [self.check(meeting, row, resting, 1, boat, ("can", (day,))) for day in days]
                    cannot = [self.check(meeting, row, resting, 1, boat, ("cannot", pair))
                              for pair in itertools.product(sets, repeat=2)]
                    self.assertEqual((any(can), any(cannot)), (boat in cans, boat not in cans))

    def test_drawn_days(self):
        counts = {True: 0, False: 0}
        for chance, meeting, row, resting, many in self.cases(91, (2, 3, 5, 8, 17)):
            resting = tuple(sorted(resting[:1]))
            stands, days = row, []
            for _ in range(many):
                days.append(drawn_day(chance, meeting, stands))
                stands = plainly_day(meeting, stands, days[-1])[0]
            for boat in (stands[0], row[0], row[-1]):
                counts[self.check(meeting, row, resting, many, boat, ("can", tuple(days)))] += 1
        self.assertGreater(min(counts.values()), 100)

    def test_days_with_an_event_more_or_fewer(self):
        counts = {}
        for chance, meeting, row, resting, many in self.cases(92, (2, 3, 4, 6)):
            for boat, (word, days) in heads_of(meeting, row, resting, many):
                if word == "cannot":
                    continue
                for d, day in enumerate(days):
                    for k, sheet in enumerate(day):
                        for event in sheet:
                            fewer = tuple(one for one in sheet if one != event)
                            fresh = days[:d] + (day[:k] + (fewer,) + day[k + 1:],) + days[d + 1:]
                            told = self.check(meeting, row, resting, many, boat, ("can", fresh))
                            counts["fewer", told] = counts.get(("fewer", told), 0) + 1
                        for event in chance.sample(all_events(row), min(3, len(all_events(row)))):
                            more = tuple(sorted({*sheet, event}))
                            fresh = days[:d] + (day[:k] + (more,) + day[k + 1:],) + days[d + 1:]
                            told = self.check(meeting, row, resting, many, boat, ("can", fresh))
                            counts["more", told] = counts.get(("more", told), 0) + 1
        # What is left out of these days is needed, but for a touch that is made up for later.
        self.assertGreater(min(counts["fewer", False], counts["more", True], counts["more", False]), 50)

    def test_sets_with_places_more_and_fewer(self):
        counts = {}
        for chance, meeting, row, resting, many in self.cases(93, (2, 4, 7, 12)):
            rests = [p for p, boat in enumerate(row) if boat in resting]
            for boat, (word, sets) in heads_of(meeting, row, resting, many):
                if word == "can":
                    continue
                m = chance.randrange(many + 1)
                for p in range(len(row)):
                    fewer = sets[:m] + (tuple(q for q in sets[m] if q != p),) + sets[m + 1:]
                    more = sets[:m] + (tuple(sorted({*sets[m], p})),) + sets[m + 1:]
                    closed = list(more)
                    for k in range(m, many):
                        behind = [plainly_places_behind(meeting, len(row), rests, q) for q in closed[k]]
                        closed[k + 1] = tuple(sorted({q for part in behind for q in part} | set(closed[k + 1])))
                    for kind, fresh in (("fewer", fewer), ("more", more), ("closed", tuple(closed))):
                        told = self.check(meeting, row, resting, many, boat, ("cannot", fresh))
                        if fresh != sets:
                            counts[kind, told] = counts.get((kind, told), 0) + 1
                        if kind == "closed":
                            self.assertIs(told, 0 not in fresh[-1])
                if len(sets[m]) > 1:
                    fresh = sets[:m] + (sets[m][::-1],) + sets[m + 1:]
                    self.assertFalse(self.check(meeting, row, resting, many, boat, ("cannot", fresh)))
                for fresh in (sets[:-1], sets + sets[-1:], sets[:m] + (list(sets[m]),) + sets[m + 1:]):
                    self.assertFalse(self.check(meeting, row, resting, many, boat, ("cannot", fresh)))
        self.assertNotIn(("fewer", True), counts)
        self.assertGreater(min(counts.values()), 50)


class OfAnything(Case):
    CASES = (
        ((1, 0), ("a",), (), 0, "a"),
        ((2, 0), ("b", "a"), (), 0, "a"),
        ((2, 0), ("b", "a"), (), 1, "a"),
        ((1, 0), ("b", "a"), ("b",), 1, "a"),
        ((3, 1), ("a", "b", "c"), ("b",), 1, "c"),
        ((3, 0), ("a", "b", "c"), (), 1, "c"),
        ((2, 0), ("a", "b", "c"), (), 2, "c"),
    )

    def cases(self):
        for case in self.CASES:
            thing = dict(heads_of(*case[:4]))[case[4]]
            self.assertTrue(self.check(*case, thing))
            yield case, thing

    def test_things_of_any_kind(self):
        things = odd_things()
        for case, told in self.cases():
            for thing in things:
                self.check(*case, thing)
                for word in ("can", "cannot"):
                    self.check(*case, (word, thing))
                    self.check(*case, (word, (thing,) * case[3]))
                    self.check(*case, (word, (thing,) * (case[3] + 1)))
                self.check(*case, (thing, told[1]))
                for at, part in enumerate(told[1]):
                    self.check(*case, (told[0], told[1][:at] + (thing,) + told[1][at + 1:]))
                    self.check(*case, (told[0], told[1][:at] + (part + (thing,),) + told[1][at + 1:]))
                    self.check(*case, (told[0], told[1][:at] + ((thing,) + part,) + told[1][at + 1:]))

    def test_told_ones_with_a_part_otherwise(self):
        for case, told in self.cases():
            for thing in spoiled(told):
                self.check(*case, thing)

    def test_nothing_handed_in_is_changed(self):
        case = ((2, 0), row_of(3), (), 1, row_of(3)[1])
        for told in (dict(heads_of(*case[:4]))[case[4]], ("cannot", ((1,), (1, 2)))):
            for thing in (list(told), (told[0], list(told[1])), (told[0], tuple(list(part) for part in told[1]))):
                before = copy.deepcopy(thing)
                self.assertIs(shows_head(*case, thing), False)
                self.assertEqual(thing, before)


if __name__ == "__main__":
    unittest.main()
