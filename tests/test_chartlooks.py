"""Looks at charts and walls: points 16 and 17."""

import copy
import itertools
import random
import unittest

from touchboats.chartlooks import shows_chart, shows_stop
from touchboats.charts import chart_by
from tests.helpers import (
    all_bans, all_mornings, drawn_ban, drawn_chart, drawn_mornings, odd_things, plainly_chart, plainly_day,
    plainly_reached, plainly_stop, sound_days, spoiled, subsets,
)

NONE = (None, None, None)


def drop(x):
    return ("drop", x)


def touch(x, y):
    return ("touch", x, y)


def rows_of(boats):
    return sorted(itertools.permutations(boats))


class Case(unittest.TestCase):
    def check_chart(self, meeting, mornings, ban, thing):
        told = shows_chart(meeting, mornings, ban, thing)
        self.assertIs(told, plainly_chart(meeting, mornings, ban, thing), (meeting, mornings, ban))
        return told

    def check_stop(self, meeting, mornings, ban, thing):
        told = shows_stop(meeting, mornings, ban, thing)
        self.assertIs(told, plainly_stop(meeting, mornings, ban, thing), (meeting, mornings, ban))
        return told


class ChartsByHand(Case):
    BOATS = ("a", "b", "c")
    MORNINGS = (BOATS, (("a", None, None), NONE, (None, None, "a")))
    DAYS = (((touch("b", "a"),),), ((drop("b"), touch("c", "a")),))
    CHART = (("a", "b", "c"), DAYS)

    def looks(self, taken, *things, meeting=(3, 0), mornings=MORNINGS, ban=None):
        for thing in things:
            self.assertIs(shows_chart(meeting, mornings, ban, thing), taken, thing)

    def test_a_chart(self):
        self.looks(True, self.CHART)
        self.looks(True, (("a", "b", "c"), (((drop("c"), touch("b", "a")),), self.DAYS[1])))
        self.looks(True, (("a", "c", "b"), (((touch("c", "a"),),), ((touch("b", "a"),),))))
        # One day by itself passes over a boat that dropped out, where the reach lets it.
        over = (("a", "b", "c"), (((drop("b"), touch("c", "a")),), ((),)))
        self.looks(False, over)
        self.looks(True, over, meeting=(3, 1))

    def test_rows_that_do_not_fit(self):
        self.looks(False, (("b", "a", "c"), self.DAYS), (("a", "c", "b"), self.DAYS))
        self.looks(False, (("a", "b", "c"), (((),), ((),))), (("a", "b", "c"), (self.DAYS[0], ((),))))
        self.looks(False, self.CHART, mornings=(self.BOATS, (("a", None, None), ("a", None, None), NONE)))
        self.looks(False, self.CHART, mornings=(self.BOATS, (("b", None, None), NONE, NONE)))
        self.looks(False, self.CHART, mornings=(self.BOATS, (NONE, NONE, (None, "b", None))))
        self.looks(False, self.CHART, mornings=(self.BOATS, (("a", "a", None), NONE, NONE)))
        self.looks(True, self.CHART, mornings=(self.BOATS, (("a", "b", "c"), ("b", "a", "c"), ("b", "c", "a"))))
        self.looks(True, self.CHART, mornings=(self.BOATS, (NONE, NONE, NONE)))

    def test_another_count_of_days_or_boats(self):
        for days in (self.DAYS[:1], self.DAYS + (((),),), ()):
            self.looks(False, (("a", "b", "c"), days))
        self.looks(False, (("a", "b"), self.DAYS), (("a", "b", "c", "d"), self.DAYS), (("a", "b", "d"), self.DAYS))
        self.looks(False, (("a", "b", "b"), self.DAYS), ((), self.DAYS), (("a", "b", "c"), self.DAYS, ()))
        self.looks(False, (("a", "b", "c"),), self.DAYS, (self.DAYS, ("a", "b", "c")), ("chart", self.CHART))

    def test_days_that_are_not_sound(self):
        for day in (((drop("z"), touch("b", "a")),), ((touch("b", "a"), touch("c", "a")),), ((touch("a", "b"),),),
                    ((touch("b", "a"),), ()), (), ((drop("b"), touch("b", "a")),), ((touch("b", "a"), drop("c")),)):
            self.looks(False, (("a", "b", "c"), (day, self.DAYS[1])))

    def test_bans(self):
        for ban in (("lacks", 0, "b", "a"), ("lacks", 1, "c", "a"), ("not", 0, 0, "a"), ("not", 0, 2, "c"),
                    ("not", 1, 0, "b"), ("not", 1, 1, "a"), ("not", 2, 2, "a"), ("not", 2, 1, "c")):
            self.looks(False, self.CHART, ban=ban)
        for ban in (("lacks", 0, "a", "b"), ("lacks", 1, "b", "a"), ("lacks", 0, "c", "a"), ("lacks", 1, "c", "b"),
                    ("not", 0, 0, "b"), ("not", 0, 1, "a"), ("not", 1, 0, "a"), ("not", 2, 1, "b"), ("not", 2, 0, "c")):
            self.looks(True, self.CHART, ban=ban)

    def test_a_touch_in_any_race(self):
        mornings = (("a", "b", "c"), (("a", "b", "c"), ("c", "a", "b")))
        chart = (("a", "b", "c"), (((touch("c", "a"),), (touch("c", "b"),), ()),))
        self.looks(True, chart, meeting=(1, 0), mornings=mornings)
        for x, y in itertools.permutations("abc", 2):
            self.looks((x, y) not in (("c", "a"), ("c", "b")), chart, meeting=(1, 0), mornings=mornings,
                       ban=("lacks", 0, x, y))


class Charts(Case):
    def test_told_charts_for_each_ban(self):
        chance = random.Random(40)
        taken = left = 0
        for _ in range(120):
            meeting = (chance.randint(1, 8), chance.randint(0, 7))
            rows, days = drawn_chart(chance, meeting, chance.randint(1, 5), chance.randint(2, 5))
            mornings = drawn_mornings(chance, rows, 5)
            self.assertTrue(self.check_chart(meeting, mornings, None, (rows[0], days)))
            bans = all_bans(mornings)
            for ban in chance.sample(bans, min(len(bans), 25)):
                if self.check_chart(meeting, mornings, ban, (rows[0], days)):
                    taken += 1
                else:
                    left += 1
            ban = drawn_ban(chance, mornings)
            word, told = chart_by(meeting, mornings, ban)
            self.assertIs(self.check_chart(meeting, mornings, ban, told), word == "chart")
            # Without the ban it is still a chart; by another meeting perhaps not.
            if word == "chart":
                self.assertTrue(self.check_chart(meeting, mornings, None, told))
            self.check_chart((meeting[0], 0), mornings, None, (rows[0], days))
            self.check_chart((1, meeting[1]), mornings, None, (rows[0], days))
        self.assertGreater(min(taken, left), 200)

    def test_all_charts_of_two_boats(self):
        for meeting in ((1, 0), (2, 0)):
            days = {row: list(sound_days(meeting, row)) for row in rows_of(("a", "b"))}
            found = [
                (row, (one, two))
                for row in days for one in days[row] for two in days[plainly_day(meeting, row, one)[0]]
            ]
            for mornings in all_mornings(("a", "b"), 3)[::7]:
                for ban in all_bans(mornings)[::3]:
                    for thing in found:
                        self.check_chart(meeting, mornings, ban, thing)

    def test_days_of_another_row(self):
        chance = random.Random(41)
        for _ in range(300):
            meeting = (chance.randint(1, 5), chance.randint(0, 3))
            rows, days = drawn_chart(chance, meeting, chance.randint(2, 5), 3)
            other = chance.choice(rows_of(rows[0]))
            mornings = drawn_mornings(chance, rows, 2)
            self.check_chart(meeting, mornings, None, (other, days))
            self.check_chart(meeting, mornings, None, (rows[0], days[::-1]))


class ChartsOfAnything(Case):
    CASES = (
        ((3, 0), ChartsByHand.MORNINGS, None, ChartsByHand.CHART),
        ((3, 0), ChartsByHand.MORNINGS, ("not", 1, 1, "c"), ChartsByHand.CHART),
        ((1, 0), (("a", "b"), ((None, "b"), (None, None))), ("lacks", 0, "a", "b"),
         (("a", "b"), (((touch("b", "a"),), ()),))),
        ((1, 7), (("a",), ((None,), ("a",))), None, (("a",), (((drop("a"),),),))),
        ((2, 0), (("a", "b"), ((None, None), (None, None))), None, (("b", "a"), (((),),))),
    )

    def test_things_of_any_kind(self):
        for meeting, mornings, ban, chart in self.CASES:
            self.assertTrue(self.check_chart(meeting, mornings, ban, chart))
            for thing in odd_things():
                self.assertIs(shows_chart(meeting, mornings, ban, thing), False)
                self.check_chart(meeting, mornings, ban, (chart[0], thing))
                self.check_chart(meeting, mornings, ban, (chart[0], (thing,) * len(chart[1])))
                self.check_chart(meeting, mornings, ban, (chart[0], ((thing,),) * len(chart[1])))
                self.check_chart(meeting, mornings, ban, (thing, chart[1]))

    def test_charts_with_a_part_otherwise(self):
        for meeting, mornings, ban, chart in self.CASES:
            for thing in spoiled(chart):
                self.check_chart(meeting, mornings, ban, thing)

    def test_nothing_handed_in_is_changed(self):
        meeting, mornings, ban, chart = self.CASES[0]
        for thing in (list(chart), (list(chart[0]), chart[1]), (chart[0], list(chart[1])),
                      (chart[0], ([()], [()])), (chart[0], (([],), ([],)))):
            before = copy.deepcopy(thing)
            self.assertIs(shows_chart(meeting, mornings, ban, thing), False)
            self.assertEqual(thing, before)


class WallsByHand(Case):
    BOATS = ("a", "b", "c")
    ALL = tuple(rows_of(BOATS))
    # By reach 0 no day leads from a, b, c to c, a, b.
    MORNINGS = (BOATS, (("a", "b", "c"), NONE, ("c", "b", "a")))
    NEAR = (("a", "b", "c"), ("a", "c", "b"), ("b", "a", "c"))
    WALL = ((("a", "b", "c"),), NEAR, ())

    def looks(self, taken, *things, meeting=(3, 0), mornings=MORNINGS, ban=None):
        for thing in things:
            self.assertIs(shows_stop(meeting, mornings, ban, thing), taken, thing)

    def test_a_wall(self):
        self.looks(True, self.WALL)
        self.looks(False, self.WALL, meeting=(3, 1))
        self.looks(False, self.WALL, mornings=(self.BOATS, (("a", "b", "c"), NONE, ("c", "a", "b"))))
        self.looks(False, self.WALL, mornings=(self.BOATS, (("a", None, "c"), NONE, NONE)))
        self.looks(False, self.WALL, mornings=(self.BOATS, (("a", "c", "b"), NONE, ("c", "b", "a"))))

    def test_rows_more_that_are_not_closed_behind(self):
        # From each other row a day leads to c, b, a.
        for row in self.ALL:
            if row not in self.NEAR:
                self.looks(False, (self.WALL[0], tuple(sorted(self.NEAR + (row,))), ()))
        # From a, c, b one leads to c, a, b.
        self.looks(False, ((("a", "b", "c"), ("a", "c", "b")), self.NEAR, ()))

    def test_rows_more_that_are_closed_behind(self):
        # No row more is let on by the torn rows.
        mornings = (self.BOATS, (("a", "b", "c"), ("c", "b", "a"), NONE))
        for first in subsets(self.ALL):
            closed = all(row not in (("c", "b", "a"), ("c", "a", "b"), ("b", "c", "a")) for row in first)
            wall = (first, (), ())
            self.looks(("a", "b", "c") in first and closed, wall, mornings=mornings)
        # A row that doesn't fit its torn one may stand there, where no day leads on from it.
        mornings = (self.BOATS, (("a", "b", "c"), ("c", "b", "a"), ("c", "b", "a")))
        for second in subsets(self.ALL):
            closed = all(row not in (("c", "b", "a"), ("c", "a", "b"), ("b", "c", "a")) for row in second)
            self.looks(closed, ((("a", "b", "c"),), second, ()), mornings=mornings)

    def test_a_row_left_out(self):
        for k in range(3):
            self.looks(False, (self.WALL[0], self.NEAR[:k] + self.NEAR[k + 1:], ()))
        self.looks(False, ((), self.NEAR, ()), ((), (), ()), (self.WALL[0], (), ()))

    def test_not_rising(self):
        for rows in itertools.permutations(self.NEAR):
            self.looks(rows == self.NEAR, (self.WALL[0], rows, ()))
        self.looks(False, (self.WALL[0] * 2, self.NEAR, ()), (self.WALL[0], self.NEAR[:1] + self.NEAR, ()))

    def test_the_last_one_is_empty(self):
        for row in self.ALL:
            self.looks(False, self.WALL[:2] + ((row,),))
        self.looks(False, self.WALL[:2] + (self.ALL,), (self.ALL,) * 3)
        self.looks(False, self.WALL[:2] + ([],), self.WALL[:2] + (None,), self.WALL[:2] + ("",), self.WALL[:2])
        self.looks(False, self.WALL + ((),), self.WALL[:1] + self.WALL, ("wall", self.WALL))

    def test_rows_of_other_boats(self):
        for row in (("a", "b"), ("a", "b", "c", "d"), ("a", "b", "d"), ("a", "b", "b"), (), ("d",), ["a", "b", "c"],
                    "abc"):
            self.looks(False, ((row,), self.NEAR, ()), (self.WALL[0] + (row,), self.NEAR, ()))
            self.looks(False, (self.WALL[0], self.NEAR + (row,), ()), (self.WALL[0], self.NEAR, (row,)))

    def test_bans(self):
        mornings = (self.BOATS, (("a", "b", "c"), NONE, ("b", "c", "a")))
        start, near = self.WALL[0], self.NEAR
        wall = (start, (("a", "b", "c"), ("a", "c", "b")), ())
        # Just the bans that keep b, a, c away.
        for ban in all_bans(mornings):
            holds = ban in (("lacks", 0, "b", "a"), ("not", 1, 0, "b"), ("not", 1, 1, "a"), ("not", 1, 2, "c"))
            self.looks(holds, wall, mornings=mornings, ban=ban)
        self.looks(True, (start, near, ()), mornings=mornings, ban=("lacks", 1, "c", "a"))
        self.looks(False, (start, near, ()), mornings=mornings, ban=("lacks", 0, "c", "a"))
        self.looks(True, (start, near, ()), mornings=mornings, ban=("not", 2, 1, "c"))
        self.looks(True, ((), (), ()), mornings=mornings, ban=("not", 0, 2, "c"))
        self.looks(False, ((), near, ()), mornings=mornings, ban=("not", 0, 2, "c"))


class Walls(Case):
    def test_all_walls_of_two_boats(self):
        sets = [tuple(rows) for rows in subsets(rows_of(("a", "b")))]
        taken = 0
        for meeting in ((1, 0), (2, 0)):
            for mornings in all_mornings(("a", "b"), 2) + all_mornings(("a", "b"), 3)[::11]:
                things = list(itertools.product(sets, repeat=len(mornings[1])))
                for ban in all_bans(mornings):
                    found = [thing for thing in things if self.check_stop(meeting, mornings, ban, thing)]
                    # A wall just where there is no chart.
                    self.assertEqual(found == [], len(plainly_reached(meeting, mornings, ban)[-1]) > 0)
                    taken += len(found)
        self.assertGreater(taken, 1000)

    def told_walls(self, seed, many, most):
        """Walls that chart_by tells, with what they are of."""
        chance = random.Random(seed)
        while many:
            meeting = (chance.randint(1, 8), chance.randint(0, 7))
            rows, days = drawn_chart(chance, meeting, chance.randint(2, most), chance.randint(2, 5))
            boats, torn = drawn_mornings(chance, rows, chance.choice((2, 5, 8)))
            ban = chance.choice((None, drawn_ban(chance, (boats, torn))))
            if chance.random() < 0.5:
                m, p = chance.randrange(len(torn)), chance.randrange(len(boats))
                torn = torn[:m] + (torn[m][:p] + (chance.choice(boats),) + torn[m][p + 1:],) + torn[m + 1:]
            word, told = chart_by(meeting, (boats, torn), ban)
            if word == "wall":
                many -= 1
                yield chance, meeting, (boats, torn), ban, told

    def test_told_walls_and_other_bans(self):
        other = 0
        for chance, meeting, mornings, ban, wall in self.told_walls(42, 150, 5):
            self.assertTrue(self.check_stop(meeting, mornings, ban, wall))
            for fresh in (None, drawn_ban(chance, mornings), drawn_ban(chance, mornings)):
                other += not self.check_stop(meeting, mornings, fresh, wall)
            self.check_stop((8, 7), mornings, ban, wall)
        self.assertGreater(other, 50)

    def test_told_walls_with_rows_more_and_fewer(self):
        counts = {}
        for chance, meeting, mornings, ban, wall in self.told_walls(43, 150, 4):
            rows = rows_of(mornings[0])
            for m, part in enumerate(wall):
                for row in part:
                    fewer = wall[:m] + (tuple(one for one in part if one != row),) + wall[m + 1:]
                    told = self.check_stop(meeting, mornings, ban, fewer)
                    counts["fewer", told] = counts.get(("fewer", told), 0) + 1
                for row in chance.sample(rows, min(3, len(rows))):
                    more = wall[:m] + (tuple(sorted({*part, row})),) + wall[m + 1:]
                    told = self.check_stop(meeting, mornings, ban, more)
                    counts["more", told] = counts.get(("more", told), 0) + 1
                    self.check_stop(meeting, mornings, ban, wall[:m] + (part + (row,),) + wall[m + 1:])
                if len(part) > 1:
                    self.assertFalse(self.check_stop(meeting, mornings, ban, wall[:m] + (part[::-1],) + wall[m + 1:]))
            full = (tuple(rows),) * (len(wall) - 1) + ((),)
            self.check_stop(meeting, mornings, ban, full)
        # All that is left out of what chart_by tells is needed.
        self.assertNotIn(("fewer", True), counts)
        self.assertGreater(min(counts.values()), 30)

    def test_no_wall_where_there_is_a_chart(self):
        chance = random.Random(44)
        for _ in range(150):
            meeting = (chance.randint(1, 5), chance.randint(0, 3))
            rows, days = drawn_chart(chance, meeting, chance.randint(1, 4), chance.randint(2, 4))
            mornings = drawn_mornings(chance, rows, 4)
            ban = chance.choice((None, drawn_ban(chance, mornings)))
            sets = plainly_reached(meeting, mornings, ban)
            if not sets[-1]:
                continue
            every = rows_of(mornings[0])
            tries = [[sorted(part) for part in sets[:-1]], [every] * (len(sets) - 1), [[]] * (len(sets) - 1)]
            for _ in range(10):
                tries.append([[row for row in every if row in part or chance.random() < 0.2] for part in sets[:-1]])
                tries.append([[row for row in every if chance.random() < 0.7] for part in sets[:-1]])
            for parts in tries:
                wall = tuple(tuple(part) for part in parts) + ((),)
                self.assertFalse(self.check_stop(meeting, mornings, ban, wall))
                self.assertFalse(self.check_stop(meeting, mornings, ban, wall[:-1] + (tuple(sorted(sets[-1])),)))


class WallsOfAnything(Case):
    CASES = (
        ((3, 0), WallsByHand.MORNINGS, None, WallsByHand.WALL),
        ((1, 0), (("a", "b"), (("a", "b"), ("b", None))), ("lacks", 0, "b", "a"), ((("a", "b"),), ())),
        ((2, 7), (("a", "b"), (("a", "a"), (None, None))), None, ((), ())),
        ((1, 7), (("a",), ((None,), ("a",))), ("not", 1, 0, "a"), ((("a",),), ())),
    )

    def test_things_of_any_kind(self):
        for meeting, mornings, ban, wall in self.CASES:
            self.assertTrue(self.check_stop(meeting, mornings, ban, wall))
            for thing in odd_things():
                self.check_stop(meeting, mornings, ban, thing)
                for m, part in enumerate(wall):
                    self.check_stop(meeting, mornings, ban, wall[:m] + (thing,) + wall[m + 1:])
                    self.check_stop(meeting, mornings, ban, wall[:m] + (part + (thing,),) + wall[m + 1:])
                    self.check_stop(meeting, mornings, ban, wall[:m] + ((thing,) + part,) + wall[m + 1:])

    def test_walls_with_a_part_otherwise(self):
        for meeting, mornings, ban, wall in self.CASES:
            for thing in spoiled(wall):
                self.check_stop(meeting, mornings, ban, thing)

    def test_nothing_handed_in_is_changed(self):
        meeting, mornings, ban, wall = self.CASES[0]
        for thing in (list(wall), wall[:2] + ([],), ([("a", "b", "c")],) + wall[1:], ((["a", "b", "c"],),) + wall[1:]):
            before = copy.deepcopy(thing)
            self.assertIs(shows_stop(meeting, mornings, ban, thing), False)
            self.assertEqual(thing, before)


if __name__ == "__main__":
    unittest.main()
