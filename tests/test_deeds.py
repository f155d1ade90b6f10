"""Deeds: point 12."""

import random
import unittest

from touchboats.deeds import deeds_of
from tests.helpers import drawn_day, drawn_row, is_plain, plainly_day, row_of, sound_days

ROW = ("a", "b", "c", "d", "e", "f", "g")


def drop(x):
    return ("drop", x)


def touch(x, y):
    return ("touch", x, y)


def plainly_deed(sheet, k, boat):
    """What the one event of the boat makes its deed."""
    for event in sheet:
        if event == drop(boat):
            return (k, "d", None)
        if event[0] == "touch" and event[1] == boat:
            return (k, "u", event[2])
        if event[0] == "touch" and event[2] == boat:
            return (k, "t", event[1])
    return (k, "o", None)


def plainly_deeds(meeting, row, day):
    starts = plainly_day(meeting, row, day)[1]
    races = list(enumerate(zip(starts, day)))[::-1]
    return tuple(
        (boat, tuple(plainly_deed(sheet, k, boat) for k, (start, sheet) in races if boat in start)) for boat in row
    )


class ByHand(unittest.TestCase):
    def test_a_day_without_events(self):
        told = deeds_of((3, 1), ROW, ((), (), ()))
        self.assertEqual(told, (
            ("a", ((0, "o", None),)),
            ("b", ((0, "o", None),)),
            ("c", ((0, "o", None),)),
            ("d", ((1, "o", None), (0, "o", None))),
            ("e", ((1, "o", None),)),
            ("f", ((1, "o", None),)),
            ("g", ((2, "o", None), (1, "o", None))),
        ))

    def test_each_mark_and_the_other_from_either_side(self):
        told = deeds_of((8, 7), ROW, ((drop("c"), touch("d", "b"), touch("e", "a")),))
        self.assertEqual(told, (
            ("a", ((0, "t", "e"),)),
            ("b", ((0, "t", "d"),)),
            ("c", ((0, "d", None),)),
            ("d", ((0, "u", "b"),)),
            ("e", ((0, "u", "a"),)),
            ("f", ((0, "o", None),)),
            ("g", ((0, "o", None),)),
        ))

    def test_a_head_that_touches_its_way_up(self):
        day = (
            (drop("b"), touch("g", "a")),
            (drop("d"), touch("g", "c")),
            (drop("f"), touch("g", "e")),
            (),
        )
        self.assertEqual(deeds_of((2, 1), ROW, day), (
            ("a", ((0, "t", "g"),)),
            ("b", ((0, "d", None),)),
            ("c", ((1, "t", "g"),)),
            ("d", ((1, "d", None),)),
            ("e", ((2, "t", "g"),)),
            ("f", ((2, "d", None),)),
            ("g", ((3, "o", None), (2, "u", "e"), (1, "u", "c"), (0, "u", "a"))),
        ))

    def test_a_head_that_drops_out_and_goes_again(self):
        day = ((touch("d", "c"),), (drop("d"), touch("f", "e")), (drop("g"),))
        told = dict(deeds_of((3, 0), ROW, day))
        self.assertEqual(told["d"], ((1, "d", None), (0, "u", "c")))
        self.assertEqual(told["c"], ((0, "t", "d"),))
        self.assertEqual(told["g"], ((2, "d", None), (1, "o", None)))

    def test_a_head_that_was_touched_does_not_go_again(self):
        day = ((drop("e"),), (touch("e", "d"),), ())
        told = dict(deeds_of((3, 0), ROW, day))
        self.assertEqual(told["d"], ((1, "t", "e"),))
        self.assertEqual(told["e"], ((1, "u", "d"), (0, "d", None)))

    def test_divisions_of_one_boat(self):
        self.assertEqual(deeds_of((1, 0), ("a",), ((),)), (("a", ((0, "o", None),)),))
        self.assertEqual(deeds_of((1, 0), ("a",), ((drop("a"),),)), (("a", ((0, "d", None),)),))
        row = ("d", "c", "b", "a")
        day = ((touch("a", "d"),), (touch("a", "c"),), (touch("a", "b"),), ())
        self.assertEqual(deeds_of((1, 7), row, day), (
            ("d", ((0, "t", "a"),)),
            ("c", ((1, "t", "a"),)),
            ("b", ((2, "t", "a"),)),
            ("a", ((3, "o", None), (2, "u", "b"), (1, "u", "c"), (0, "u", "d"))),
        ))

    def test_the_most_races(self):
        row = row_of(24)
        last = row[23]
        day = tuple((touch(last, boat),) for boat in row[:23]) + ((drop(last),),)
        told = deeds_of((1, 0), row, day)
        self.assertEqual(told[:23], tuple((boat, ((k, "t", last),)) for k, boat in enumerate(row[:23])))
        ways = tuple((k, "u", row[k]) for k in reversed(range(23)))
        self.assertEqual(told[23], (last, ((23, "d", None),) + ways))


class AgainstTheWords(unittest.TestCase):
    def check(self, meeting, row, day):
        told = deeds_of(meeting, row, day)
        self.assertEqual(told, plainly_deeds(meeting, row, day), (meeting, row, day))
        self.assertEqual(deeds_of(meeting, row, day), told)
        self.assertTrue(is_plain(told))
        self.follow(meeting, row, day, told)

    def follow(self, meeting, row, day, told):
        """The deeds tell how each boat came from its place to that of the next morning."""
        behind = plainly_day(meeting, row, day)[0]
        places = {boat: place for place, boat in enumerate(row)}
        deeds = {(boat, k): other for boat, parts in told for k, mark, other in parts}
        for k in reversed(range(len(day))):
            before = dict(places)
            for boat in row:
                other = deeds.get((boat, k))
                if other is not None:
                    places[boat] = before[other]
        self.assertEqual(sorted(row, key=places.get), list(behind))

    def test_all_sound_days_of_small_rows(self):
        for n in range(1, 5):
            row = ("c", "a", "d", "b")[:n]
            for size in range(1, 5):
                for reach in range(3):
                    for day in sound_days((size, reach), row):
                        self.check((size, reach), row, day)

    def test_drawn_days_of_each_meeting(self):
        chance = random.Random(12)
        for size in range(1, 9):
            for reach in range(8):
                for n in (chance.randint(2, 9), chance.randint(10, 23), 24):
                    row = drawn_row(chance, n)
                    self.check((size, reach), row, drawn_day(chance, (size, reach), row))

    def test_days_without_events(self):
        for size in range(1, 9):
            for n in (1, size, size + 1, 24):
                self.check((size, 0), row_of(n), ((),) * -(-n // size))


if __name__ == "__main__":
    unittest.main()
