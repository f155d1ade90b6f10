"""Two mornings: point 13, and the reasons of point 14 that told_by tells."""

import itertools
import random
import unittest

from touchboats.tellings import days_between, told_by
from tests.helpers import (
    drawn_day, drawn_row, is_plain, plainly_behind, plainly_day, plainly_leads, plainly_races, plainly_untold, row_of,
    sound_days, sound_sheets, subsets,
)


def drop(x):
    return ("drop", x)


def touch(x, y):
    return ("touch", x, y)


def days_told(races):
    """Point 13: the days that the told races let be."""
    sheets = []
    for touches, drops, free in races:
        sheets.append([
            tuple(sorted(touches + tuple(drop(x) for x in drops) + tuple(drop(x) for x in some)))
            for some in subsets(free)
        ])
    return itertools.product(*sheets)


class Case(unittest.TestCase):
    def check_form(self, races, many):
        self.assertTrue(is_plain(races))
        self.assertEqual(len(races), many)
        for race in races:
            touches, drops, free = race
            for part in race:
                self.assertEqual(list(part), sorted(set(part)))
            self.assertTrue(all(event[0] == "touch" for event in touches))

    def check_untold(self, meeting, row, other):
        told = told_by(meeting, row, other)
        self.assertTrue(is_plain(told))
        self.assertTrue(plainly_untold(meeting, row, other, told), (meeting, row, other, told))
        self.assertEqual(told_by(meeting, row, other), told)
        self.assertEqual(days_between(meeting, row, other), 0)
        return told


class ByHand(Case):
    def told(self, meeting, row, other, races, many):
        self.assertEqual(told_by(meeting, row, other), ("told", races))
        self.assertEqual(days_between(meeting, row, other), many)

    def untold(self, meeting, row, other, *told):
        self.assertIn(self.check_untold(meeting, row, other), told)

    def test_a_row_and_itself(self):
        self.told((1, 0), ("a",), ("a",), (((), (), ("a",)),), 2)
        self.told((8, 7), ("b", "a"), ("b", "a"), (((), (), ("a", "b")),), 4)
        row = ("c", "a", "b")
        self.told((2, 0), row, row, (((), (), ("a", "b", "c")), ((), (), ("b",))), 16)
        self.told((1, 0), row, row, (((), (), ("a", "c")), ((), (), ("a", "b")), ((), (), ("b",))), 32)

    def test_who_must_drop_out_and_who_may(self):
        row = ("g", "f", "e", "d", "c", "b", "a")
        self.told((8, 2), row, ("g", "c", "e", "d", "f", "b", "a"),
                  (((touch("c", "f"),), ("d", "e"), ("a", "b", "g")),), 8)
        # Who is in a touch needn't drop out of the way.
        self.told((8, 2), row, ("g", "c", "d", "e", "f", "b", "a"),
                  (((touch("c", "f"), touch("d", "e")), (), ("a", "b", "g")),), 8)
        self.told((8, 4), row, ("b", "f", "d", "e", "c", "g", "a"),
                  (((touch("b", "g"), touch("d", "e")), ("c", "f"), ("a",)),), 2)

    def test_a_head_that_goes_on_up(self):
        row = ("a", "b", "c", "d", "e")
        races = (
            ((touch("d", "b"),), (), ("a",)),
            ((touch("d", "c"),), (), ("e",)),
            ((), (), ("e",)),
        )
        self.told((2, 0), row, ("a", "d", "b", "c", "e"), races, 8)

    def test_from(self):
        # Race 1 of c, d, e, f would need b, or a.
        row = ("a", "b", "c", "d", "e", "f")
        self.untold((2, 7), row, ("a", "c", "d", "b", "e", "f"), ("untold", 1, ("from", "b")))
        self.untold((3, 7), row, ("a", "c", "d", "e", "b", "f"), ("untold", 1, ("from", "b")))
        self.untold((3, 7), row, ("f", "e", "d", "c", "b", "a"),
                    ("untold", 1, ("from", "b")), ("untold", 1, ("from", "a")))

    def test_round(self):
        row = ("a", "b", "c", "d")
        rounds = [("untold", 0, ("round", x)) for x in ("a", "b", "c")]
        self.untold((4, 7), row, ("c", "a", "b", "d"), *rounds)
        # Race 1 has b, c, d; behind its first place they would be b, c, so d would be head of it.
        rounds = [("untold", 1, ("round", x)) for x in ("b", "c", "d")]
        self.untold((3, 7), ("x", "y", "z", "b", "c", "d"), ("x", "y", "z", "d", "b", "c"), *rounds)
        self.untold((3, 7), ("x", "y", "z", "b", "c", "d"), ("x", "y", "d", "z", "b", "c"), *rounds)

    def test_far(self):
        row = ("a", "b", "c", "d")
        self.untold((4, 0), row, ("c", "b", "a", "d"), ("untold", 0, ("far", touch("c", "a"))))
        self.untold((4, 1), row, ("d", "b", "c", "a"), ("untold", 0, ("far", touch("d", "a"))))
        row = ("x", "y", "z", "a", "b", "c")
        self.untold((3, 0), row, ("x", "y", "z", "c", "b", "a"), ("untold", 1, ("far", touch("c", "a"))))
        # Then c would go on up to z's place.
        self.untold((3, 0), row, ("x", "y", "c", "z", "b", "a"), ("untold", 1, ("far", touch("c", "a"))))

    def test_cross(self):
        row = ("a", "b", "c", "d")
        e, g = touch("c", "a"), touch("d", "b")
        self.untold((4, 7), row, ("c", "d", "a", "b"), ("untold", 0, ("cross", e, g)), ("untold", 0, ("cross", g, e)))
        row = ("x", "y", "z", "a", "b", "c", "d")
        crosses = ("untold", 1, ("cross", e, g)), ("untold", 1, ("cross", g, e))
        self.untold((4, 7), ("w",) + row, ("w", "x", "y", "z", "c", "d", "a", "b"), *crosses)
        self.untold((4, 7), ("w",) + row, ("w", "x", "y", "c", "z", "d", "a", "b"), *crosses)

    def test_the_last_of_the_races_that_cannot_be_told(self):
        # Neither race could be told.
        row = ("a", "b", "c", "d", "e", "f")
        self.untold((3, 0), row, ("c", "b", "a", "f", "e", "d"), ("untold", 1, ("far", touch("f", "d"))))

    def test_twenty_four_boats(self):
        row = row_of(24)
        self.assertEqual(days_between((1, 0), row, row), 2 ** 47)
        self.assertEqual(days_between((8, 7), row, row), 2 ** 26)
        self.assertEqual(days_between((7, 0), row, row), 2 ** 27)
        last = row[23]
        races = tuple(((touch(last, boat),), (), ()) for boat in row[:23]) + (((), (), (last,)),)
        self.told((1, 0), row, row[23:] + row[:23], races, 2)
        pairs = tuple(row[place ^ 1] for place in range(24))
        touches = [tuple(touch(row[k + 1], row[k]) for k in range(first, first + 8, 2)) for first in (0, 8, 16)]
        # Who is head of a division goes again above, and may drop out there.
        races = ((touches[0], (), (row[9],)), (touches[1], (), (row[17],)), (touches[2], (), ()))
        self.told((8, 0), row, pairs, races, 4)
        # The last race has its span's boats alone.
        self.untold((8, 7), row, row[::-1], *[("untold", 2, ("from", x)) for x in row[:7]])
        self.untold((1, 7), row, row[1:] + row[:1], ("untold", 22, ("from", row[0])))


class AllRows(Case):
    def check_all(self, meeting, row):
        found = {}
        for day in sound_days(meeting, row):
            found.setdefault(plainly_day(meeting, row, day)[0], set()).add(day)
        for other in itertools.permutations(row):
            if other not in found:
                self.check_untold(meeting, row, other)
                continue
            word, races = told_by(meeting, row, other)
            self.assertEqual(word, "told", (meeting, row, other))
            self.check_form(races, len(plainly_races(meeting, len(row))))
            days = list(days_told(races))
            self.assertEqual(len(set(days)), len(days))
            self.assertEqual(set(days), found[other], (meeting, row, other))
            self.assertEqual(days_between(meeting, row, other), len(days))
            self.assertEqual(told_by(meeting, row, other), (word, races))

    def test_up_to_four_boats(self):
        for n in range(1, 5):
            row = ("d", "a", "c", "b")[:n]
            for size in range(1, 6):
                for reach in range(4):
                    self.check_all((size, reach), row)

    def test_five_and_six_boats(self):
        for meeting in ((1, 0), (2, 0), (2, 1), (3, 1), (3, 2), (4, 0), (4, 3), (5, 1), (5, 2), (8, 3)):
            self.check_all(meeting, ("e", "b", "d", "a", "c"))
        for meeting in ((2, 1), (3, 1), (6, 2)):
            self.check_all(meeting, ("e", "b", "f", "d", "a", "c"))


class Longer(Case):
    def check_day(self, meeting, row, day):
        other = plainly_day(meeting, row, day)[0]
        word, races = told_by(meeting, row, other)
        self.assertEqual(word, "told", (meeting, row, day))
        self.check_form(races, len(day))
        many = 1
        for (touches, drops, free), sheet in zip(races, day):
            self.assertEqual(touches, tuple(event for event in sheet if event[0] == "touch"))
            out = {event[1] for event in sheet if event[0] == "drop"}
            self.assertLessEqual(set(drops), out)
            self.assertLessEqual(out, {*drops, *free})
            many *= 2 ** len(free)
        self.assertEqual(days_between(meeting, row, other), many)
        return other

    def check_drops(self, meeting, row, other):
        """With the told drops alone the day is sound; without any one of them it isn't."""
        races = told_by(meeting, row, other)[1]
        starts = plainly_day(meeting, row, [race[0] for race in races])[1]
        for start, (touches, drops, free) in zip(starts, races):
            touching = {boat for event in touches for boat in event[1:]}
            self.assertEqual(sorted([*touching, *drops, *free]), sorted(start))
            sheet = tuple(sorted(touches + tuple(drop(x) for x in drops)))
            self.assertTrue(plainly_leads(start, meeting[1], plainly_behind(start, sheet)))
            for x in drops:
                places = [sorted((start.index(e[1]), start.index(e[2]))) for e in touches]
                self.assertTrue(any(low < start.index(x) < high for low, high in places))
            for x in free:
                places = [sorted((start.index(e[1]), start.index(e[2]))) for e in touches]
                self.assertFalse(any(low < start.index(x) < high for low, high in places))

    def test_drawn_days_of_each_meeting(self):
        chance = random.Random(13)
        for size in range(1, 9):
            for reach in range(8):
                for n in (chance.randint(5, 12), chance.randint(13, 23), 24):
                    row = drawn_row(chance, n)
                    day = drawn_day(chance, (size, reach), row)
                    self.check_drops((size, reach), row, self.check_day((size, reach), row, day))

    def test_drawn_rows_to_which_no_day_leads(self):
        chance = random.Random(14)
        words = {}
        for turn in range(1500):
            n = chance.randint(5, 24)
            meeting = (chance.randint(1, 8), chance.randint(0, 7))
            row = drawn_row(chance, n)
            other = list(plainly_day(meeting, row, drawn_day(chance, meeting, row))[0])
            for _ in range(chance.randint(1, 3)):
                one, two = chance.sample(range(n), 2)
                if turn % 2:
                    two = min(one + chance.randint(1, 3), n - 1)
                other[one], other[two] = other[two], other[one]
            told = told_by(meeting, row, tuple(other))
            if told[0] == "untold":
                self.check_untold(meeting, row, tuple(other))
                key = (told[2][0], told[1] > 0)
                words[key] = words.get(key, 0) + 1
            else:
                self.check_form(told[1], len(plainly_races(meeting, n)))
                self.assertGreater(days_between(meeting, row, tuple(other)), 0)
                self.check_drops(meeting, row, tuple(other))
        self.assertEqual(sorted(words), [(word, above) for word in ("cross", "far", "from", "round")
                                         for above in (False, True) if (word, above) != ("from", False)])


class Helper(unittest.TestCase):
    def test_leads(self):
        for n in range(1, 6):
            row = row_of(n)
            for reach in range(4):
                behind = set(sound_sheets(row, reach).values())
                for goal in itertools.permutations(row):
                    self.assertEqual(plainly_leads(row, reach, goal), goal in behind)


if __name__ == "__main__":
    unittest.main()
