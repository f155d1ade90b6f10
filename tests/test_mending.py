"""Torn sheets: point 15, fits_torn and mended."""

import copy
import itertools
import random
import unittest

from touchboats.mending import fits_torn, mended
from tests.helpers import (
    drawn_row, drawn_sheet, drawn_torn, is_plain, odd_things, plainly_fits, plainly_mended, plainly_row_by,
    plainly_words, row_of, spoiled,
)


def plain_word(start, sheet):
    """Point 9: the word of a sound sheet."""
    marks = {}
    for event in sheet:
        if event[0] == "drop":
            marks[event[1]] = "d"
        else:
            marks[event[1]], marks[event[2]] = "u", "t"
    return tuple(marks.get(boat, "o") for boat in start)


def none_of(many):
    return (None,) * many


def all_torn(start, boats):
    """All torn sheets of the start, of these boats or None behind."""
    marks = itertools.product((None, "d", "o", "t", "u"), repeat=len(start))
    return itertools.product(marks, list(itertools.product((None,) + boats, repeat=len(start))))


class FitsByHand(unittest.TestCase):
    START = ("a", "b", "c", "d")

    def fits(self, reach, torn, taken, left):
        for word in taken:
            self.assertIs(fits_torn(self.START, reach, torn, tuple(word)), True, word)
        for word in left:
            self.assertIs(fits_torn(self.START, reach, torn, tuple(word)), False, word)

    def test_nothing_told(self):
        torn = (none_of(4), none_of(4))
        self.fits(2, torn, ("oooo", "dddd", "tuoo", "ttuu", "tddu", "tutu", "otdu"),
                  ("toou", "tttu", "utoo", "ooo", "ooooo", "", "oxoo", "tuuo"))
        self.fits(1, torn, ("tduo", "tutu"), ("ttuu", "tddu"))
        self.fits(0, torn, ("tutu",), ("tduo", "ttuu", "tddu"))

    def test_marks_told(self):
        self.fits(2, (("t", None, "u", None), none_of(4)), ("tduo", "tdud", "ttuu"),
                  ("tutu", "oooo", "otuo", "tuud"))
        self.fits(2, (("d", "o", "t", "u"), none_of(4)), ("dotu",), ("dotd", "ootu", "dodd"))

    def test_boats_told(self):
        self.fits(2, (none_of(4), (None, None, "a", None)), ("tduo", "tdud"), ("ttuu", "oooo", "tuoo", "otuo"))
        self.fits(2, (none_of(4), ("d", "c", "b", "a")), ("ttuu",), ("tddu", "tutu", "dddd"))
        self.fits(2, (none_of(4), ("a", "b", "c", "d")), ("oooo", "dddd", "dodo"), ("tuoo", "ootu"))

    def test_boats_told_that_no_word_leads_to(self):
        words = ["".join(word) for word in plainly_words(4, 2)]
        self.fits(2, (none_of(4), ("z", None, None, None)), (), words)
        self.fits(2, (none_of(4), ("a", "a", None, None)), (), words)
        self.fits(2, (none_of(4), ("b", None, "a", None)), (), words)
        self.fits(2, (("t", "u", "u", None), none_of(4)), (), words)


class Fits(unittest.TestCase):
    def check(self, start, reach, torn, things):
        for thing in things:
            told = fits_torn(start, reach, torn, thing)
            self.assertIs(told, plainly_fits(start, reach, torn, thing), (start, reach, torn, thing))

    def test_all_torn_sheets_of_one_and_two_boats(self):
        for start, boats in ((("a",), ("a", "z")), (("b", "a"), ("a", "b", "z"))):
            things = [word for many in range(4) for word in itertools.product("dotu", repeat=many)]
            for torn in all_torn(start, boats):
                for reach in (0, 1):
                    self.check(start, reach, torn, things)

    def test_drawn_torn_sheets_by_each_reach(self):
        chance = random.Random(16)
        for n in (3, 4, 5):
            things = list(itertools.product("dotu", repeat=n)) + list(itertools.product("dotu", repeat=n - 1))
            for reach in range(8 if n == 3 else 4):
                for much in range(0, 11, 5):
                    start = drawn_row(chance, n)
                    word = chance.choice(plainly_words(n, reach))
                    torn = drawn_torn(chance, start, word, much)
                    self.check(start, reach, torn, things)
                    self.assertIs(fits_torn(start, reach, torn, word), True)
        for n in (6, 7):
            for reach in range(8):
                start = drawn_row(chance, n)
                word = chance.choice(plainly_words(n, reach))
                self.check(start, reach, drawn_torn(chance, start, word, 3), plainly_words(n, min(reach + 1, 7)))

    def test_things_of_any_kind(self):
        start = ("a", "b", "c")
        for torn in ((none_of(3), none_of(3)), (("t", None, "u"), ("c", "b", None)), (none_of(3), ("b", "a", "c"))):
            things = itertools.chain(odd_things(), spoiled(("t", "d", "u")), spoiled(("t", "u", "o")))
            for thing in things:
                told = fits_torn(start, 1, torn, thing)
                self.assertIs(told, plainly_fits(start, 1, torn, thing))
        for thing in (["t", "d", "u"], "tdu", None, ("t", ["d"], "u"), ("t", "d", ("u",)), ("t", "d", "u", None)):
            self.assertIs(fits_torn(start, 1, (none_of(3), none_of(3)), thing), False)

    def test_nothing_handed_in_is_changed(self):
        for thing in (["t", "u"], (["t"], "u"), {"t": ["u"]}):
            before = copy.deepcopy(thing)
            self.assertIs(fits_torn(("a", "b"), 1, (none_of(2), none_of(2)), thing), False)
            self.assertEqual(thing, before)


class MendedByHand(unittest.TestCase):
    def test_a_single_boat(self):
        self.assertEqual(mended(("a",), 0, ((None,), (None,)))[:3], ("some", (None,), ("a",)))
        ((kind, place, one, other),) = mended(("a",), 0, ((None,), (None,)))[3]
        self.assertEqual((kind, place, {one, other}), ("mark", 0, {("d",), ("o",)}))
        self.assertEqual(mended(("a",), 7, (("o",), (None,))), ("some", ("o",), ("a",), ()))
        self.assertEqual(mended(("a",), 7, (("d",), ("a",))), ("some", ("d",), ("a",), ()))
        for torn in ((("t",), (None,)), (("u",), ("a",)), ((None,), ("b",)), (("o",), ("b",))):
            self.assertEqual(mended(("a",), 0, torn), ("none",))

    def test_the_row_tells_marks_and_the_marks_the_row(self):
        start = ("a", "b", "c", "d", "e")
        told = mended(start, 3, (none_of(5), (None, "d", None, None, None)))
        self.assertEqual(told[1:3], ((None, "t", "d", "u", None), (None, "d", "c", "b", None)))
        # By a smaller reach a and e can't have touched.
        told = mended(start, 1, (none_of(5), (None, "d", None, None, None)))
        self.assertEqual(told[1:3], ((None, "t", "d", "u", None), ("a", "d", "c", "b", "e")))
        told = mended(start, 3, (("t", None, "o", None, None), none_of(5)))
        self.assertEqual(told[1:3], (("t", "u", "o", None, None), ("b", "a", "c", None, None)))
        self.assertEqual([paper[:2] for paper in told[3]], [("mark", 3), ("mark", 4), ("boat", 3), ("boat", 4)])

    def test_unlike_touches_of_one_word_that_agree_in_marks(self):
        # Marks alone tell the touches: by "ttuu" none but the inner and the outer two.
        told = mended(("a", "b", "c", "d"), 2, (("t", "t", "u", "u"), none_of(4)))
        self.assertEqual(told, ("some", ("t", "t", "u", "u"), ("d", "c", "b", "a"), ()))

    def test_none(self):
        start = ("a", "b", "c")
        for torn in (
            (("t", "o", None), none_of(3)),
            (("u", None, None), none_of(3)),
            ((None, None, "t"), none_of(3)),
            (none_of(3), ("b", "c", None)),
            (none_of(3), ("b", "b", None)),
            (none_of(3), (None, None, "z")),
            (("t", "u", None), ("a", None, None)),
            (("o", None, None), ("b", None, None)),
        ):
            self.assertEqual(mended(start, 7, torn), ("none",), torn)
        self.assertEqual(mended(start, 0, (none_of(3), ("c", None, None))), ("none",))
        told = mended(start, 1, (none_of(3), ("c", None, None)))
        self.assertEqual(told, ("some", ("t", "d", "u"), ("c", "b", "a"), ()))


class Mended(unittest.TestCase):
    def check(self, start, reach, torn):
        told = mended(start, reach, torn)
        self.assertTrue(is_plain(told))
        self.assertTrue(plainly_mended(start, reach, torn, told), (start, reach, torn, told))
        self.assertEqual(mended(start, reach, torn), told)
        return told

    def test_all_torn_sheets_of_one_and_two_boats(self):
        for start, boats in ((("a",), ("a", "z")), (("b", "a"), ("a", "b", "z"))):
            for torn in all_torn(start, boats):
                for reach in (0, 1):
                    self.check(start, reach, torn)

    def test_nothing_told(self):
        for n in range(1, 8):
            start = row_of(n)
            for reach in range(8):
                word, marks, row, papers = self.check(start, reach, (none_of(n), none_of(n)))
                self.assertEqual(word, "some")
                self.assertEqual(marks, none_of(n))
                self.assertEqual(row, none_of(n) if n > 1 else start)
                self.assertEqual(len(papers), 2 * n if n > 1 else 1)

    def test_all_told(self):
        chance = random.Random(17)
        for n in range(1, 8):
            for reach in range(8):
                start = drawn_row(chance, n)
                word = plain_word(start, drawn_sheet(chance, start, reach))
                row = plainly_row_by(start, word)
                for torn in ((word, row), (word, none_of(n))):
                    self.assertEqual(self.check(start, reach, torn), ("some", word, row, ()))

    def test_torn_sheets_of_a_drawn_one(self):
        chance = random.Random(18)
        papers = 0
        for n in (3, 4, 5, 6, 7):
            for reach in range(8):
                for much in (1, 2, 4, 6, 8):
                    start = drawn_row(chance, n)
                    word = plain_word(start, drawn_sheet(chance, start, reach))
                    told = self.check(start, reach, drawn_torn(chance, start, word, much))
                    self.assertEqual(told[0], "some")
                    papers += len(told[3])
        self.assertGreater(papers, 300)

    def test_one_told_otherwise(self):
        chance = random.Random(19)
        found = {"none": 0, "some": 0}
        for _ in range(300):
            n = chance.randint(2, 7)
            reach = chance.randint(0, 7)
            start = drawn_row(chance, n)
            word = plain_word(start, drawn_sheet(chance, start, reach))
            marks, behind = drawn_torn(chance, start, word, 7)
            at = chance.randrange(n)
            if chance.random() < 0.5:
                fresh = chance.choice([mark for mark in "dotu" if mark != word[at]])
                marks = marks[:at] + (fresh,) + marks[at + 1:]
            else:
                fresh = chance.choice([boat for boat in start + ("zz",) if boat != plainly_row_by(start, word)[at]])
                behind = behind[:at] + (fresh,) + behind[at + 1:]
            found[self.check(start, reach, (marks, behind))[0]] += 1
        self.assertGreater(found["none"], 100)
        self.assertGreater(found["some"], 20)


if __name__ == "__main__":
    unittest.main()
