"""Days: point 11, and the starts of point 12."""

import copy
import itertools
import random
import unittest

from touchboats.days import day_behind, is_day, starts_of
from tests.helpers import (
    is_plain, odd_things, plainly_day, plainly_races, plainly_reason, plainly_sheet, row_of, sheets_once, sound_days,
    sound_sheets, spoiled,
)


def drop(x):
    return ("drop", x)


def touch(x, y):
    return ("touch", x, y)


def plainly_is_day(thing):
    return type(thing) is tuple and 1 <= len(thing) <= 24 and all(plainly_sheet(part) for part in thing)


class IsDay(unittest.TestCase):
    def test_counts_of_sheets(self):
        for many in range(27):
            for sheet in ((), (drop("a"), touch("b", "c"))):
                self.assertIs(is_day((sheet,) * many), 1 <= many <= 24, many)

    def test_sheets_that_are_none(self):
        for bad in ((drop("b"), drop("a")), (drop("a"), drop("a")), [], [drop("a")], (["drop", "a"],), drop("a"),
                    (touch("a", "a"),), None, "", {}, True, ((),)):
            for many in (1, 2, 24):
                for place in range(many):
                    day = ((),) * place + (bad,) + ((),) * (many - place - 1)
                    self.assertIs(is_day(day), False, day)

    def test_other_forms(self):
        for thing in ([()], [], (), {(): ()}, {()}, None, True, 1, "", drop("a"), (drop("a"),)):
            self.assertIs(is_day(thing), False, thing)

    def test_things_of_any_kind(self):
        for thing in itertools.chain(odd_things(), spoiled(((), (drop("a"), touch("b", "c"))))):
            told = is_day(thing)
            self.assertIs(told, plainly_is_day(thing))
            self.assertIs(is_day(thing), told)

    def test_nothing_handed_in_is_changed(self):
        for thing in ([()], ([drop("b"), drop("a")],), ((["drop", "a"],),)):
            before = copy.deepcopy(thing)
            self.assertIs(is_day(thing), False)
            self.assertEqual(thing, before)


class ByHand(unittest.TestCase):
    ROW = ("a", "b", "c", "d", "e", "f", "g")

    def check(self, meeting, row, day, behind, starts):
        self.assertEqual(day_behind(meeting, row, day), ("row", behind))
        self.assertEqual(starts_of(meeting, row, day), starts)

    def test_a_day_without_events(self):
        self.check((3, 1), self.ROW, ((), (), ()), self.ROW, (("a", "b", "c", "d"), ("d", "e", "f", "g"), ("g",)))

    def test_a_head_that_goes_again_and_on_up(self):
        day = (
            (drop("b"), touch("g", "a")),
            (drop("d"), touch("g", "c")),
            (drop("f"), touch("g", "e")),
            (),
        )
        starts = (("a", "b", "g"), ("c", "d", "g"), ("e", "f", "g"), ("g",))
        self.check((2, 1), self.ROW, day, ("g", "b", "a", "d", "c", "f", "e"), starts)

    def test_a_head_that_dropped_out_or_was_touched_goes_again(self):
        # d drops out below, and touches above.
        day = ((touch("d", "c"),), (drop("d"), touch("f", "e")), (drop("g"),))
        starts = (("a", "b", "c", "d"), ("d", "e", "f", "g"), ("g",))
        self.check((3, 0), self.ROW, day, ("a", "b", "d", "c", "f", "e", "g"), starts)
        # e touches d below, so e goes above and not d.
        day = ((touch("e", "c"),), (touch("e", "d"),), ())
        starts = (("a", "b", "c", "e"), ("d", "e", "f", "g"), ("g",))
        self.check((3, 0), self.ROW, day, ("a", "b", "e", "c", "d", "f", "g"), starts)

    def test_one_division(self):
        day = ((touch("d", "c"), touch("e", "b")),)
        self.check((8, 2), self.ROW, day, ("a", "e", "d", "c", "b", "f", "g"), (self.ROW,))
        self.check((1, 0), ("a",), ((),), ("a",), (("a",),))
        self.check((8, 7), ("a",), ((drop("a"),),), ("a",), (("a",),))

    def test_divisions_of_one_boat(self):
        row = ("a", "b", "c", "d")
        day = ((touch("d", "a"),), (touch("d", "b"),), (touch("d", "c"),), ())
        self.check((1, 0), row, day, ("d", "a", "b", "c"), (("a", "d"), ("b", "d"), ("c", "d"), ("d",)))
        day = ((touch("b", "a"),), (), (touch("d", "c"),), (drop("d"),))
        self.check((1, 7), row, day, ("b", "a", "d", "c"), (("a", "b"), ("b", "d"), ("c", "d"), ("d",)))

    def test_the_most_races_and_boats(self):
        row = row_of(24)
        day = tuple((touch(row[23], boat),) for boat in row[:23]) + ((),)
        self.check((1, 0), row, day, row[23:] + row[:23], tuple((boat, row[23]) for boat in row[:23]) + (row[23:],))

    def test_one_sheet_that_is_not_sound(self):
        for k, sheet, reason in (
            (2, (drop("a"),), ("strange", "a")),
            (1, (drop("c"),), ("strange", "c")),
            (1, (touch("f", "d"),), ("stays", touch("f", "d"), "e")),
            (1, (drop("e"), drop("f"), touch("g", "d")), ("far", touch("g", "d"))),
            (0, (touch("a", "b"),), ("wrong", touch("a", "b"))),
            (0, (drop("b"), touch("b", "a")), ("twice", "b")),
            (0, (drop("e"),), ("strange", "e")),
        ):
            day = [(), (), ()]
            day[k] = sheet
            self.assertEqual(day_behind((3, 1), self.ROW, tuple(day)), ("unsound", k, reason))

    def test_the_race_that_goes_first_is_told(self):
        bad = (drop("z"),)
        for k in range(3):
            day = ((bad,) * (k + 1) + ((),) * 3)[:3]
            self.assertEqual(day_behind((3, 1), self.ROW, day), ("unsound", k, ("strange", "z")))
        self.assertEqual(day_behind((3, 1), self.ROW, ((drop("y"),), (), bad)), ("unsound", 2, ("strange", "z")))

    def test_a_start_that_comes_of_the_races_ahead(self):
        # e is head of the division below, so d doesn't start above.
        for sheet in ((touch("d", "c"),), (drop("d"),)):
            day = (sheet, (touch("e", "d"),), ())
            self.assertEqual(day_behind((3, 1), self.ROW, day), ("unsound", 0, ("strange", "d")))

    def test_another_count_of_sheets(self):
        for count in range(1, 25):
            for sheet in ((), (drop("z"),), (touch("a", "b"),)):
                for meeting, many in (((3, 1), 3), ((1, 0), 7), ((7, 7), 1), ((2, 2), 4)):
                    if count != many:
                        told = day_behind(meeting, self.ROW, (sheet,) * count)
                        self.assertEqual(told, ("unsound", None, ("races", many)))


class AgainstTheWords(unittest.TestCase):
    def check(self, meeting, row, day):
        told = day_behind(meeting, row, day)
        self.assertTrue(is_plain(told))
        self.assertEqual(day_behind(meeting, row, day), told)
        stands = row
        races = plainly_races(meeting, len(row))
        for k in reversed(range(len(races))):
            start = tuple(stands[place] for place in races[k])
            sound = self.sound_of(start, meeting[1])
            if day[k] not in sound:
                self.assertEqual(told[:2], ("unsound", k), (meeting, row, day))
                self.assertEqual(len(told), 3)
                self.assertTrue(plainly_reason(start, meeting[1], day[k], told[2]), (meeting, row, day, told))
                return False
            stands = stands[:races[k][0]] + sound[day[k]] + stands[races[k][-1] + 1:]
        self.check_sound(meeting, row, day, stands)
        return True

    def check_sound(self, meeting, row, day, behind):
        self.assertEqual(day_behind(meeting, row, day), ("row", behind), (meeting, row, day))
        row_by_words, starts = plainly_day(meeting, row, day)
        self.assertEqual(behind, row_by_words)
        told = starts_of(meeting, row, day)
        self.assertTrue(is_plain(told))
        self.assertEqual(told, starts, (meeting, row, day))

    def setUp(self):
        self.sounds = {}

    def sound_of(self, start, reach):
        if (start, reach) not in self.sounds:
            self.sounds[start, reach] = sound_sheets(start, reach)
        return self.sounds[start, reach]

    def test_all_sound_days_of_small_rows(self):
        for n in range(1, 5):
            for size in range(1, 5):
                for reach in range(3):
                    row = tuple(reversed(row_of(n)))
                    for day in sound_days((size, reach), row):
                        self.assertTrue(self.check((size, reach), row, day))

    def test_all_days_without_a_boat_twice_in_a_race(self):
        for n, size in ((1, 1), (2, 1), (2, 2), (3, 1), (3, 2), (3, 3), (4, 2), (4, 3)):
            row = ("b", "d", "a", "c")[:n]
            sheets = list(sheets_once(row))
            for day in itertools.product(sheets, repeat=-(-n // size)):
                self.check((size, max(n - 2, 0)), row, day)

    def test_longer_days(self):
        chance = random.Random(3)
        sound = 0
        for _ in range(1500):
            n = chance.randint(5, 24)
            meeting = (chance.randint(1, 4), chance.randint(0, 7))
            row = list(row_of(n))
            chance.shuffle(row)
            row = stands = tuple(row)
            sheets = []
            for places in reversed(plainly_races(meeting, n)):
                start = tuple(stands[place] for place in places)
                found = self.sound_of(start, meeting[1])
                sheet = chance.choice(sorted(found))
                stands = stands[:places[0]] + found[sheet] + stands[places[-1] + 1:]
                sheets.insert(0, sheet)
            if chance.random() < 0.5:
                for _ in range(2):
                    x, y = chance.sample(row, 2)
                    at = chance.randrange(len(sheets))
                    fresh = chance.choice((drop(x), touch(x, y)))
                    sheets[at] = tuple(sorted({*sheets[at], fresh}))
            sound += self.check(meeting, row, tuple(sheets))
        self.assertGreater(sound, 500)
        self.assertLess(sound, 1400)


if __name__ == "__main__":
    unittest.main()
