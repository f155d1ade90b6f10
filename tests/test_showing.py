"""What is written: point 27."""

import random
import unittest

from touchboats.reading import read_day, read_row, read_torn
from touchboats.showing import show_day, show_row, show_torn
from tests.helpers import (
    NAMES, drawn_day, drawn_row, drawn_torn_day, plainly_read_day, plainly_read_row, plainly_read_torn,
    plainly_shown_day, plainly_words, row_of, sheets_once, subsets,
)

MEETINGS = [(size, reach) for size in range(1, 9) for reach in range(8)]


class ByHand(unittest.TestCase):
    def test_rows(self):
        self.assertEqual(show_row(("a",)), "a")
        self.assertEqual(show_row(("oak", "ash", "zzzzzzzz")), "oak ash zzzzzzzz")

    def test_days(self):
        for day, text in (
            (((),), "-"),
            (((), ()), "- / -"),
            (((("drop", "a"),),), "a!"),
            (((("touch", "b", "a"),),), "b>a"),
            (((("drop", "z"), ("touch", "b", "a")),), "z! b>a"),
            (((("drop", "touch"), ("touch", "drop", "x")), ()), "touch! drop>x / -"),
            (((), (("drop", "a"), ("drop", "b")), ()), "- / a! b! / -"),
        ):
            self.assertEqual(show_day(day), text)
            self.assertEqual(read_day(text), day)

    def test_torn_sheets(self):
        for sheets, text in (
            ((((None,), (None,)),), "? ?"),
            (((("o",), ("a",)),), "o a"),
            (((("t", None, "u"), (None, "ab", None)),), "t?u ? ab ?"),
            (((("t", "u"), ("b", "a")), ((None,), ("c",))), "tu b a / ? c"),
            (((("d",) * 9, ("o",) * 9),), "ddddddddd o o o o o o o o o"),
            (((("u", "u"), ("a", "a")),), "uu a a"),
        ):
            self.assertEqual(show_torn(sheets), text)
            self.assertEqual(read_torn(text), sheets)


class ShownAndReadAgain(unittest.TestCase):
    def test_rows(self):
        chance = random.Random(110)
        for n in range(1, 25):
            for row in (row_of(n), drawn_row(chance, n)):
                text = show_row(row)
                self.assertIs(type(text), str)
                self.assertEqual(read_row(text), row)
                self.assertEqual(plainly_read_row(text), row)

    def test_all_sheets_of_few_boats(self):
        for boats in (("a",), ("a", "b"), ("a", "b", "c")):
            sheets = sorted(set(sheets_once(boats)))
            texts = [show_day((sheet,)) for sheet in sheets]
            self.assertEqual(len(set(texts)), len(sheets))
            for sheet, text in zip(sheets, texts):
                self.assertEqual(text, plainly_shown_day((sheet,)))
                self.assertEqual(read_day(text), (sheet,))
                self.assertEqual(read_day(text + " / -"), (sheet, ()))

    def test_days(self):
        chance = random.Random(111)
        for meeting in MEETINGS:
            for n in (1, 2, 4, 9, 24):
                day = drawn_day(chance, meeting, drawn_row(chance, n))
                text = show_day(day)
                self.assertIs(type(text), str)
                self.assertEqual(text, plainly_shown_day(day))
                self.assertEqual(read_day(text), day)
                self.assertEqual(plainly_read_day(text), day)

    def test_sheets_that_no_race_has(self):
        # Rising events make a sheet, whether they could be or not.
        events = sorted([("drop", "a"), ("drop", "b"), ("touch", "a", "b"), ("touch", "b", "a"), ("touch", "drop", "a")])
        for sheet in subsets(events):
            self.assertEqual(read_day(show_day((sheet, sheet))), (sheet, sheet))

    def test_torn_sheets(self):
        chance = random.Random(112)
        for meeting in MEETINGS:
            for n in (1, 2, 4, 9, 24):
                sheets = drawn_torn_day(chance, meeting, drawn_row(chance, n), chance.randint(0, 10))
                text = show_torn(sheets)
                self.assertIs(type(text), str)
                self.assertEqual(read_torn(text), sheets)
                self.assertEqual(plainly_read_torn(text), sheets)

    def test_all_small_torn_sheets(self):
        found = {}
        for n in (1, 2):
            marks = [tuple(parts) for parts in (plainly_words(n, 0) + ((None,) * n, ("u",) * n, ("t", None)[:n]))]
            boats = [(None,) * n, ("a",) * n, ("b", None)[:n], ("t", "u")[:n]]
            for one in marks:
                for other in boats:
                    found[show_torn(((one, other),))] = ((one, other),)
                    found[show_torn(((one, other),) * 2)] = ((one, other),) * 2
        for text, sheets in found.items():
            self.assertEqual(read_torn(text), sheets)

    def test_as_many_as_there_may_be(self):
        self.assertEqual(read_row(show_row(NAMES[:24])), NAMES[:24])
        self.assertEqual(read_day(show_day(((),) * 24)), ((),) * 24)
        self.assertEqual(read_torn(show_torn((((None,) * 9, NAMES[:9]),) * 24)), (((None,) * 9, NAMES[:9]),) * 24)


if __name__ == "__main__":
    unittest.main()
