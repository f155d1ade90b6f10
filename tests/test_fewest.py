"""Fewest touches: points 19 and 20."""

import itertools
import random
import unittest

from touchboats.days import day_behind
from touchboats.fewest import apart_by, fewest, is_few, rounds_of, touch_places
from touchboats.rows import races_of, span
from tests.helpers import (
    NAMES, drawn_day, drawn_row, is_plain, plainly_apart, plainly_day, plainly_exchanged, plainly_few, plainly_fewest,
    plainly_papers, plainly_places, plainly_rounds, plainly_walked, row_of,
)

MEETINGS = [(size, reach) for size in range(1, 9) for reach in range(8)]


class TouchPlaces(unittest.TestCase):
    def test_by_hand(self):
        self.assertEqual(touch_places((1, 0), 1), ())
        self.assertEqual(touch_places((8, 7), 1), ())
        self.assertEqual(touch_places((1, 7), 4), ((0, 1), (1, 2), (2, 3)))
        self.assertEqual(touch_places((2, 0), 4), ((0, 1), (1, 2), (2, 3)))
        # The head of the lower division goes again at the foot of the upper one.
        self.assertEqual(touch_places((2, 1), 5), ((0, 1), (0, 2), (1, 2), (2, 3), (2, 4), (3, 4)))
        self.assertEqual(touch_places((3, 1), 5), ((0, 1), (0, 2), (1, 2), (1, 3), (2, 3), (3, 4)))
        self.assertEqual(touch_places((3, 2), 4), ((0, 1), (0, 2), (0, 3), (1, 2), (1, 3), (2, 3)))

    def test_against_the_spans_pair_by_pair(self):
        for meeting in MEETINGS:
            for n in range(1, 25):
                told = touch_places(meeting, n)
                self.assertTrue(is_plain(told))
                self.assertIs(type(told), tuple)
                self.assertEqual(list(told), plainly_places(meeting, n), (meeting, n))
                spans = [span(meeting, n, k) for k in range((n + meeting[0] - 1) // meeting[0])]
                for p, q in itertools.combinations(range(n), 2):
                    near = q - p - 1 <= meeting[1] and any(low <= p and q <= high for low, high in spans)
                    self.assertIs((p, q) in told, near)
                self.assertEqual(touch_places(meeting, n), told)


    def test_such_a_touch_by_itself_exchanges_just_these(self):
        for meeting in MEETINGS:
            for n in (2, 3, 5, 9):
                row = row_of(n)
                for p, q in touch_places(meeting, n):
                    # The upper of two races where both places are of its span.
                    k = min(k for k in range(n) if span(meeting, n, k)[1] >= q)
                    sheet = tuple(sorted([("touch", row[q], row[p])] + [("drop", boat) for boat in row[p + 1:q]]))
                    day = tuple(sheet if at == k else () for at in range(races_of(meeting, n)))
                    self.assertEqual(day_behind(meeting, row, day), ("row", plainly_exchanged(row, p, q)))

    def test_the_touches_of_a_day_one_by_one(self):
        chance = random.Random(66)
        for meeting in MEETINGS:
            for n in (2, 4, 7, 24):
                row = drawn_row(chance, n)
                day = drawn_day(chance, meeting, row)
                touches = [event[1:] for sheet in reversed(day) for event in sheet if event[0] == "touch"]
                self.assertEqual(plainly_walked(meeting, row, touches), plainly_day(meeting, row, day)[0])


class Apart(unittest.TestCase):
    def test_by_hand(self):
        self.assertEqual(apart_by(("a",), ("a",)), 0)
        self.assertEqual(apart_by(("a", "b"), ("b", "a")), 1)
        self.assertEqual(apart_by(("a", "b", "c"), ("c", "a", "b")), 2)
        self.assertEqual(rounds_of(("a",), ("a",)), 1)
        self.assertEqual(rounds_of(("a", "b"), ("b", "a")), 1)
        self.assertEqual(rounds_of(("a", "b", "c"), ("c", "a", "b")), 1)
        self.assertEqual(rounds_of(("a", "b", "c"), ("c", "b", "a")), 2)
        self.assertEqual(rounds_of(("c", "a", "d", "b"), ("c", "a", "d", "b")), 4)

    def rows(self):
        chance = random.Random(60)
        for n in range(1, 25):
            row = drawn_row(chance, n)
            yield row, row
            yield row, row[::-1]
            for k in range(n):
                yield row, row[k:] + row[:k]
            for _ in range(10):
                yield row, drawn_row(chance, n)
            p, q = chance.randrange(n), chance.randrange(n)
            yield row, plainly_exchanged(row, p, q)

    def test_against_all_pairs_and_rounds(self):
        for row, other in self.rows():
            for ask, slow in ((apart_by, plainly_apart), (rounds_of, plainly_rounds)):
                told = ask(row, other)
                self.assertIs(type(told), int)
                self.assertEqual(told, slow(row, other), (row, other))
                self.assertEqual(ask(row, other), told)
                self.assertEqual(ask(other, row), told)

    def test_alike_turned_about_and_round(self):
        for n in range(1, 25):
            row = row_of(n)
            self.assertEqual(apart_by(row, row), 0)
            self.assertEqual(apart_by(row, row[::-1]), n * (n - 1) // 2)
            self.assertEqual(apart_by(row, row[1:] + row[:1]), n - 1)
            self.assertEqual(rounds_of(row, row), n)
            self.assertEqual(rounds_of(row, row[::-1]), (n + 1) // 2)
            self.assertEqual(rounds_of(row, row[1:] + row[:1]), 1)

    def test_all_rows_of_few_boats(self):
        for n in range(1, 6):
            for row in ((row_of(n)), row_of(n)[::-1]):
                for other in itertools.permutations(row):
                    self.assertEqual(apart_by(row, other), plainly_apart(row, other))
                    self.assertEqual(rounds_of(row, other), plainly_rounds(row, other))


class Fewest(unittest.TestCase):
    def check(self, meeting, row, other):
        told = fewest(meeting, row, other)
        self.assertTrue(is_plain(told))
        self.assertTrue(plainly_fewest(meeting, row, other, told), (meeting, row, other, told))
        self.assertEqual(fewest(meeting, row, other), told)
        return told

    def test_by_hand(self):
        self.assertEqual(fewest((1, 0), ("a",), ("a",))[:2], (0, ()))
        self.assertEqual(fewest((1, 3), ("a", "b"), ("b", "a"))[:2], (1, (("b", "a"),)))
        self.assertEqual(fewest((3, 0), ("a", "b", "c"), ("c", "b", "a"))[0], 3)
        self.assertEqual(fewest((3, 1), ("a", "b", "c"), ("c", "b", "a"))[:2], (1, (("c", "a"),)))
        # The two spans have one place in common alone.
        self.assertEqual(fewest((1, 1), ("a", "b", "c"), ("c", "b", "a"))[0], 3)
        self.assertEqual(fewest((2, 1), ("a", "b", "c"), ("c", "b", "a"))[:2], (1, (("c", "a"),)))

    def test_a_table_row_by_row(self):
        many, touches, paper = fewest((2, 1), ("b", "a", "c"), ("a", "b", "c"))
        self.assertEqual((many, touches), (1, (("a", "b"),)))
        self.assertEqual(paper, ("table", (0, 1, 1, 2, 2, 1)))
        for meeting in ((1, 1), (2, 1), (3, 1), (4, 1), (2, 2), (4, 7)):
            row, other = row_of(5), ("ac", "ae", "ab", "aa", "ad")
            word, numbers = self.check(meeting, row, other)[2]
            self.assertEqual(word, "table")
            rows = sorted(itertools.permutations(row))
            self.assertEqual(list(numbers), [plainly_few(meeting, one, other) for one in rows])

    def test_all_rows_of_few_boats(self):
        chance = random.Random(61)
        for meeting in MEETINGS:
            for n in range(1, 6):
                row = drawn_row(chance, n)
                others = list(itertools.permutations(row))
                # Beyond these all places can be exchanged, as by the meetings ahead.
                if n == 5 and (meeting[0] > 5 or meeting[1] > 3):
                    others = chance.sample(others, 10)
                for other in others:
                    told = self.check(meeting, row, other)
                    self.assertEqual(told[0], plainly_few(meeting, row, other), (meeting, row, other))

    def test_alike(self):
        chance = random.Random(62)
        for meeting in MEETINGS:
            for n in range(1, 25):
                if plainly_papers(meeting, n):
                    row = drawn_row(chance, n)
                    self.assertEqual(self.check(meeting, row, row)[:2], (0, ()))

    def test_reach_0_of_many_boats(self):
        chance = random.Random(63)
        for size in range(1, 9):
            for n in range(1, 25):
                row = drawn_row(chance, n)
                for other in (drawn_row(chance, n), row[::-1], row[1:] + row[:1], row[-1:] + row[:-1]):
                    many, touches, paper = fewest((size, 0), row, other)
                    self.assertEqual(many, apart_by(row, other))
                    self.assertEqual(many, len(touches))
                    self.assertEqual(plainly_walked((size, 0), row, touches), other)
                    self.assertIn(paper[0], plainly_papers((size, 0), n))
                    self.assertTrue(n <= 5 or paper == ("pairs",))

    def test_all_places_of_one_race(self):
        chance = random.Random(64)
        for size, reach in MEETINGS:
            for n in range(1, min(size, reach + 2) + 1):
                row = drawn_row(chance, n)
                for other in [drawn_row(chance, n) for _ in range(5)] + [row[::-1], row[1:] + row[:1]]:
                    many, touches, paper = self.check((size, reach), row, other)
                    self.assertEqual(many, n - rounds_of(row, other))
                    self.assertEqual(plainly_walked((size, reach), row, touches), other)

    def test_touches_walked_one_by_one(self):
        chance = random.Random(65)
        for meeting in MEETINGS:
            for n in (2, 3, 4, 5, 8, 24):
                if not plainly_papers(meeting, n):
                    continue
                row, other = drawn_row(chance, n), drawn_row(chance, n)
                stands = row
                for x, y in fewest(meeting, row, other)[1]:
                    self.assertLess(stands.index(y), stands.index(x))
                    self.assertIn((stands.index(y), stands.index(x)), touch_places(meeting, n))
                    stands = plainly_exchanged(stands, stands.index(y), stands.index(x))
                self.assertEqual(stands, other)

    def test_each_sort_of_paper(self):
        found = {fewest(meeting, NAMES[:n], NAMES[:n][::-1])[2][0] for meeting in MEETINGS for n in range(1, 9)
                 if plainly_papers(meeting, n)}
        self.assertEqual(found, {"pairs", "rounds", "table"})

    def test_where_it_is_told(self):
        for meeting in MEETINGS:
            for n in range(1, 25):
                self.assertIs(is_few(meeting, n), plainly_papers(meeting, n) != [])


if __name__ == "__main__":
    unittest.main()
