"""Who can be head: points 21 and 22."""

import random
import unittest

from touchboats.days import day_behind, starts_of
from touchboats.heads import heads_of, places_behind
from tests.helpers import (
    drawn_resting, drawn_row, is_plain, plainly_head, plainly_heads, plainly_places_behind, plainly_resting_rows,
    row_of, subsets,
)

MEETINGS = [(size, reach) for size in range(1, 9) for reach in range(8)]


class PlacesBehind(unittest.TestCase):
    def test_by_hand(self):
        self.assertEqual(places_behind((1, 0), 1, (), 0), (0,))
        self.assertEqual(places_behind((1, 0), 1, (0,), 0), (0,))
        # Division by division a boat may go all the way up on one day, but down one race alone.
        self.assertEqual(places_behind((1, 0), 4, (), 3), (0, 1, 2, 3))
        self.assertEqual(places_behind((1, 0), 4, (), 0), (0, 1))
        self.assertEqual(places_behind((1, 0), 4, (), 1), (0, 1, 2))
        self.assertEqual(places_behind((2, 0), 5, (), 4), (3, 4))
        self.assertEqual(places_behind((2, 0), 5, (), 3), (1, 2, 3, 4))
        self.assertEqual(places_behind((2, 1), 5, (), 4), (0, 1, 2, 3, 4))
        # Who rests is passed where the reach lets it, and no one takes its place.
        self.assertEqual(places_behind((4, 0), 4, (1,), 2), (2, 3))
        self.assertEqual(places_behind((4, 1), 4, (1,), 2), (0, 2, 3))
        self.assertEqual(places_behind((4, 1), 4, (1,), 1), (1,))
        # Who rests at the head of a division bars the way up by that place.
        self.assertEqual(places_behind((2, 7), 4, (2,), 3), (3,))
        self.assertEqual(places_behind((2, 7), 4, (2,), 1), (0, 1))

    def test_against_all_sound_days(self):
        for meeting in MEETINGS:
            most = 5 if meeting[0] <= 5 and meeting[1] <= 3 else 3
            for n in range(1, most + 1):
                for places in subsets(range(n)):
                    rows = plainly_resting_rows(meeting, n, places)
                    for p in range(n):
                        wanted = tuple(sorted({row.index(p) for row in rows}))
                        told = places_behind(meeting, n, places, p)
                        self.assertEqual(told, wanted, (meeting, n, places, p))
                        self.assertTrue(is_plain(told))

    def test_race_by_race_of_many_boats(self):
        chance = random.Random(80)
        for meeting in MEETINGS:
            for n in range(1, 25):
                some = tuple(sorted(chance.sample(range(n), chance.randint(0, n))))
                but_one = chance.randrange(n)
                for places in ((), some, tuple(q for q in range(n) if q != but_one), tuple(range(n)), (0,), (n - 1,)):
                    for p in range(n):
                        told = places_behind(meeting, n, places, p)
                        self.assertEqual(told, plainly_places_behind(meeting, n, places, p), (meeting, n, places, p))
                        if p in places or len(places) >= n - 1:
                            self.assertEqual(told, (p,))


class HeadsOf(unittest.TestCase):
    def check(self, meeting, row, resting, many):
        told = heads_of(meeting, row, resting, many)
        self.assertTrue(is_plain(told))
        self.assertEqual([boat for boat, thing in told], list(row))
        for boat, thing in told:
            self.assertTrue(plainly_head(meeting, row, resting, many, boat, thing), (meeting, row, resting, many, boat))
            if thing[0] == "can":
                self.walk(meeting, row, resting, many, boat, thing[1])
        self.assertEqual(heads_of(meeting, row, resting, many), told)
        return told

    def walk(self, meeting, row, resting, many, boat, days):
        self.assertEqual(len(days), many)
        stands = row
        for day in days:
            for start, sheet in zip(starts_of(meeting, stands, day), day, strict=True):
                for one in resting:
                    self.assertIs(("drop", one) in sheet, one in start)
            word, stands = day_behind(meeting, stands, day)
            self.assertEqual(word, "row")
        self.assertEqual(stands[0], boat)

    def can(self, told):
        return {boat for boat, thing in told if thing[0] == "can"}

    def test_by_hand(self):
        self.assertEqual(heads_of((1, 0), ("a",), (), 0), (("a", ("can", ())),))
        self.assertEqual(heads_of((1, 0), ("b", "a"), (), 0), (("b", ("can", ())), ("a", ("cannot", ((1,),)))))
        self.assertEqual(heads_of((2, 0), ("b", "a"), (), 1)[1], ("a", ("can", (((("touch", "a", "b"),),),))))
        self.assertEqual(heads_of((2, 0), ("b", "a"), ("a",), 2)[1], ("a", ("cannot", ((1,), (1,), (1,)))))
        self.assertEqual(heads_of((2, 0), ("b", "a"), ("b",), 1)[0], ("b", ("can", (((("drop", "b"),),),))))
        # Where the head rests, nobody else can be it.
        self.assertEqual(self.can(heads_of((4, 7), ("d", "a", "c", "b"), ("d",), 4)), {"d"})
        self.assertEqual(self.can(heads_of((4, 0), ("d", "a", "c", "b"), (), 1)), {"d", "a"})
        self.assertEqual(self.can(heads_of((4, 0), ("d", "a", "c", "b"), (), 2)), {"d", "a", "c"})
        self.assertEqual(self.can(heads_of((1, 0), ("d", "a", "c", "b"), (), 1)), {"d", "a", "c", "b"})
        # c rests, and b passes it.
        self.assertEqual(self.can(heads_of((4, 0), ("d", "a", "c", "b"), ("c",), 4)), {"d", "a"})
        self.assertEqual(self.can(heads_of((4, 1), ("d", "a", "c", "b"), ("c",), 2)), {"d", "a", "b"})

    def test_no_days(self):
        chance = random.Random(81)
        for n in range(1, 25):
            row = drawn_row(chance, n)
            for resting in ((), tuple(sorted(row)), drawn_resting(chance, row)):
                told = self.check((chance.randint(1, 8), chance.randint(0, 7)), row, resting, 0)
                self.assertEqual(self.can(told), {row[0]})

    def test_against_all_sound_days(self):
        chance = random.Random(82)
        for meeting in MEETINGS:
            most = 4 if meeting[0] <= 4 and meeting[1] <= 2 else 3
            for n in range(1, most + 1):
                row = drawn_row(chance, n)
                for resting in subsets(sorted(row)):
                    for many in range(5):
                        told = self.check(meeting, row, resting, many)
                        self.assertEqual(self.can(told), plainly_heads(meeting, row, resting, many),
                                         (meeting, row, resting, many))

    def test_five_boats_against_all_sound_days(self):
        chance = random.Random(83)
        for meeting in ((1, 0), (2, 0), (2, 1), (3, 0), (3, 1), (3, 2), (4, 1), (5, 0), (5, 2)):
            row = drawn_row(chance, 5)
            for resting in ((), *[drawn_resting(chance, row) for _ in range(5)]):
                for many in (1, 2, 3):
                    told = self.check(meeting, row, resting, many)
                    self.assertEqual(self.can(told), plainly_heads(meeting, row, resting, many))

    def test_many_boats(self):
        chance = random.Random(84)
        cans = cannots = 0
        for meeting in MEETINGS:
            for n in (8, 9, 16, 23, 24, chance.randint(5, 24)):
                row = drawn_row(chance, n)
                many = chance.randint(1, 4)
                told = self.check(meeting, row, drawn_resting(chance, row), many)
                cans += len(self.can(told))
                cannots += n - len(self.can(told))
        self.assertGreater(min(cans, cannots), 500)

    def test_none_some_and_all_resting(self):
        chance = random.Random(85)
        for meeting in MEETINGS[::5]:
            for n in (1, 2, 6, 24):
                row = drawn_row(chance, n)
                for many in range(5):
                    self.assertEqual(self.can(self.check(meeting, row, tuple(sorted(row)), many)), {row[0]})
                    told = self.check(meeting, row, tuple(sorted(row[1:])), many)
                    self.assertEqual(self.can(told), {row[0]})
                    self.check(meeting, row, (), many)
                    self.check(meeting, row, (row[-1],), many)
                    self.check(meeting, row, tuple(sorted(row[1::2])), many)

    def test_who_could_ahead_can_still(self):
        # No day more makes it harder, as nobody need touch anybody.
        for meeting in MEETINGS[::3]:
            row = row_of(12)
            for resting in ((), row[3:5], row[6:7]):
                cans = [self.can(heads_of(meeting, row, resting, many)) for many in range(5)]
                for fewer, more in zip(cans, cans[1:]):
                    self.assertLessEqual(fewer, more)


if __name__ == "__main__":
    unittest.main()
