"""Torn mornings: points 16 and 17, chart_by."""

import itertools
import random
import unittest

from touchboats.charts import chart_by
from tests.helpers import (
    all_bans, all_mornings, drawn_ban, drawn_chart, drawn_mornings, is_plain, plainly_chart, plainly_charts,
    plainly_reached, plainly_stop, row_of,
)

MEETINGS = [(size, reach) for size in range(1, 9) for reach in range(8)]


def drop(x):
    return ("drop", x)


def touch(x, y):
    return ("touch", x, y)


class Case(unittest.TestCase):
    def check(self, meeting, mornings, ban):
        told = chart_by(meeting, mornings, ban)
        self.assertTrue(is_plain(told))
        self.assertEqual(len(told), 2)
        case = (meeting, mornings, ban, told)
        if plainly_reached(meeting, mornings, ban)[-1]:
            self.assertEqual(told[0], "chart", case)
            self.assertTrue(plainly_chart(meeting, mornings, ban, told[1]), case)
        else:
            self.assertEqual(told[0], "wall", case)
            self.assertTrue(plainly_stop(meeting, mornings, ban, told[1]), case)
        self.assertEqual(chart_by(meeting, mornings, ban), told)
        return told[0]


class ByHand(Case):
    def test_one_boat(self):
        for many in range(2, 6):
            for torn in itertools.product(((None,), ("a",)), repeat=many):
                mornings = (("a",), torn)
                word, (row, days) = chart_by((1, 0), mornings, None)
                self.assertEqual((word, row, len(days)), ("chart", ("a",), many - 1))
                self.assertEqual(self.check((8, 7), mornings, None), "chart")
                for m in range(many):
                    self.assertEqual(self.check((1, 0), mornings, ("not", m, 0, "a")), "wall")

    def test_one_way_alone_as_to_touches(self):
        mornings = (("a", "b", "c"), (("a", "b", "c"), (None, None, None), ("b", "c", "a")))
        word, (row, days) = chart_by((3, 0), mornings, None)
        self.assertEqual((word, row), ("chart", ("a", "b", "c")))
        touches = [[event for sheet in day for event in sheet if event[0] == "touch"] for day in days]
        self.assertEqual(touches, [[touch("b", "a")], [touch("c", "a")]])
        for ban in (("lacks", 0, "b", "a"), ("lacks", 1, "c", "a"), ("not", 1, 0, "b"), ("not", 1, 1, "a"),
                    ("not", 0, 0, "a"), ("not", 2, 2, "a")):
            self.assertEqual(self.check((3, 0), mornings, ban), "wall", ban)
        for ban in (("lacks", 1, "b", "a"), ("lacks", 0, "a", "b"), ("lacks", 0, "c", "a"), ("not", 1, 0, "a"),
                    ("not", 0, 0, "b"), ("not", 2, 0, "a")):
            self.assertEqual(self.check((3, 0), mornings, ban), "chart", ban)

    def test_a_ban_of_one_day_lets_the_others_be(self):
        boats = ("a", "b")
        mornings = (boats, (("a", "b"), ("b", "a"), ("a", "b")))
        self.assertEqual(self.check((2, 0), mornings, ("lacks", 0, "a", "b")), "chart")
        self.assertEqual(self.check((2, 0), mornings, ("lacks", 1, "b", "a")), "chart")
        self.assertEqual(self.check((2, 0), mornings, ("lacks", 0, "b", "a")), "wall")
        self.assertEqual(self.check((2, 0), mornings, ("lacks", 1, "a", "b")), "wall")

    def test_a_touch_in_any_race(self):
        boats = ("a", "b", "c")
        mornings = (boats, (("a", "b", "c"), ("c", "a", "b")))
        self.assertEqual(self.check((1, 0), mornings, None), "chart")
        self.assertEqual(self.check((1, 0), mornings, ("lacks", 0, "c", "a")), "wall")
        self.assertEqual(self.check((1, 0), mornings, ("lacks", 0, "c", "b")), "wall")
        self.assertEqual(self.check((1, 0), mornings, ("lacks", 0, "b", "a")), "chart")
        self.assertEqual(self.check((3, 0), mornings, None), "wall")

    def test_a_boat_told_twice_in_one_torn_row(self):
        boats = ("a", "b", "c")
        for many in range(2, 6):
            for m in range(many):
                for twice in (("a", "a", None), ("b", None, "b"), ("c", "c", "c")):
                    torn = ((None,) * 3,) * m + (twice,) + ((None,) * 3,) * (many - m - 1)
                    self.assertEqual(self.check((2, 1), (boats, torn), None), "wall")

    def test_nobody_drops_out_but_out_of_the_way(self):
        boats = ("a", "b", "c", "d", "e")
        mornings = (boats, (boats, ("a", "e", "c", "d", "b"), ("a", "e", "d", "c", "b")))
        days = (((drop("c"), drop("d"), touch("e", "b")),), ((touch("d", "c"),),))
        self.assertEqual(chart_by((5, 2), mornings, None), ("chart", (boats, days)))
        mornings = (boats, (boats, ("e", "d", "c", "b", "a")))
        days = (((drop("c"), touch("d", "b"), touch("e", "a")),),)
        self.assertEqual(chart_by((8, 3), mornings, None), ("chart", (boats, days)))
        mornings = (boats, (boats, ("b", "a", "c", "e", "d")))
        days = (((touch("b", "a"), touch("e", "d")),),)
        self.assertEqual(chart_by((8, 0), mornings, None), ("chart", (boats, days)))

    def test_too_far_apart(self):
        # Five boats turned about by touches of the next one ahead alone: ten, at most two a day.
        boats = ("a", "b", "c", "d", "e")
        torn = (boats,) + ((None,) * 5,) * 3 + (boats[::-1],)
        self.assertEqual(self.check((5, 0), (boats, torn), None), "wall")
        self.assertEqual(self.check((5, 3), (boats, torn), None), "chart")


class AllMornings(Case):
    def test_of_two_boats(self):
        for meeting in ((1, 0), (2, 0)):
            for many in (2, 3):
                for mornings in all_mornings(("a", "b"), many):
                    for ban in all_bans(mornings):
                        self.check(meeting, mornings, ban)

    def test_of_three_boats(self):
        chance = random.Random(20)
        for mornings in chance.sample(all_mornings(("a", "b", "c"), 2), 300):
            for meeting in ((1, 1), (2, 0), (2, 1), (3, 0), (3, 1)):
                for ban in [None] + chance.sample(all_bans(mornings), 3):
                    self.check(meeting, mornings, ban)

    def test_the_helpers_agree(self):
        chance = random.Random(21)
        for _ in range(60):
            meeting = (chance.randint(1, 4), chance.randint(0, 2))
            rows, days = drawn_chart(chance, meeting, chance.randint(1, 4), chance.randint(2, 4))
            mornings = drawn_mornings(chance, rows, 5)
            self.assertTrue(plainly_chart(meeting, mornings, None, (rows[0], days)))
            for ban in (None, drawn_ban(chance, mornings)):
                found = any(True for chart in plainly_charts(meeting, mornings, ban))
                self.assertEqual(found, len(plainly_reached(meeting, mornings, ban)[-1]) > 0)


class Drawn(Case):
    def cases(self, seed, boats):
        chance = random.Random(seed)
        for meeting in MEETINGS:
            for n in boats:
                many = chance.randint(2, 5)
                yield chance, meeting, drawn_chart(chance, meeting, n, many)[0]

    def test_torn_mornings_of_a_drawn_chart(self):
        words = {}
        for chance, meeting, rows in self.cases(22, (1, 2, 3, 4, 4)):
            mornings = drawn_mornings(chance, rows, chance.choice((1, 4, 7, 9)))
            self.assertEqual(self.check(meeting, mornings, None), "chart")
            for _ in range(3):
                ban = drawn_ban(chance, mornings)
                key = (ban[0], self.check(meeting, mornings, ban))
                words[key] = words.get(key, 0) + 1
        self.assertEqual(len(words), 4)
        self.assertGreater(min(words.values()), 30)

    def test_five_boats(self):
        for chance, meeting, rows in self.cases(23, (5,)):
            mornings = drawn_mornings(chance, rows, chance.choice((2, 5, 8)))
            self.assertEqual(self.check(meeting, mornings, None), "chart")
            self.check(meeting, mornings, drawn_ban(chance, mornings))

    def test_one_place_told_otherwise(self):
        words = {"chart": 0, "wall": 0}
        for chance, meeting, rows in self.cases(24, (2, 3, 4, 5)):
            boats, torn = drawn_mornings(chance, rows, 6)
            m, p = chance.randrange(len(torn)), chance.randrange(len(boats))
            other = chance.choice([boat for boat in boats if boat != rows[m][p]])
            row = torn[m][:p] + (other,) + torn[m][p + 1:]
            words[self.check(meeting, (boats, torn[:m] + (row,) + torn[m + 1:]), None)] += 1
        self.assertGreater(min(words.values()), 20)

    def test_all_told(self):
        words = {"chart": 0, "wall": 0}
        for chance, meeting, rows in self.cases(25, (2, 3, 4, 5)):
            mornings = (tuple(sorted(rows[0])), rows)
            self.assertEqual(self.check(meeting, mornings, None), "chart")
            words[self.check(meeting, mornings, drawn_ban(chance, mornings))] += 1
            shuffled = list(rows)
            chance.shuffle(shuffled)
            words[self.check(meeting, (mornings[0], tuple(shuffled)), None)] += 1
        self.assertGreater(min(words.values()), 20)

    def test_all_torn(self):
        chance = random.Random(26)
        for meeting in MEETINGS:
            for n in (1, 2, 3, 4):
                mornings = (row_of(n), ((None,) * n,) * chance.randint(2, 5))
                self.assertEqual(self.check(meeting, mornings, None), "chart")
                self.check(meeting, mornings, drawn_ban(chance, mornings))
        mornings = (row_of(5), ((None,) * 5,) * 5)
        for meeting in ((1, 0), (2, 1), (3, 7), (5, 0), (8, 3)):
            self.assertEqual(self.check(meeting, mornings, None), "chart")


if __name__ == "__main__":
    unittest.main()
