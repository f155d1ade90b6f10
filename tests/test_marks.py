"""Marks: point 9."""

import copy
import itertools
import unittest

from touchboats.marks import is_word, marks_of, sheet_by
from touchboats.races import is_sheet, order_of, row_behind
from tests.helpers import is_plain, odd_things, plainly_closed, plainly_word, row_of, sound_sheets, spoiled


def words_of(many, reach):
    return [word for word in itertools.product("dotu", repeat=many) if plainly_word(reach, word)]


class Words(unittest.TestCase):
    def check(self, reach, text, wanted):
        self.assertIs(is_word(reach, tuple(text)), wanted, (reach, text))

    def test_what_is_one(self):
        for reach, text in ((0, "o"), (0, "d"), (0, "tu"), (0, "tutu"), (1, "tdu"), (2, "ttuu"), (3, "ttudu"),
                            (3, "tdtuu"), (4, "ttutuu"), (0, "otuo"), (0, "dtud"), (4, "tdtudu"), (5, "tttduuu"),
                            (0, "otutuod")):
            self.check(reach, text, True)
            self.check(7, text, True)

    def test_a_u_that_closes_nothing(self):
        for text in ("u", "ut", "tuu", "ou", "du", "tuut", "uo", "tudu"):
            self.check(7, text, False)

    def test_a_t_that_stays_unclosed(self):
        for text in ("t", "tt", "ttu", "tut", "td", "to", "ot", "tdd", "ttdu"):
            self.check(7, text, False)

    def test_an_o_between_the_two(self):
        for text in ("tou", "todu", "tdou", "totuu", "ttouu", "ttuou", "totudu"):
            self.check(7, text, False)
        for text in ("otuo", "tuotu", "otduo"):
            self.check(7, text, True)

    def test_just_reach_marks_between_and_one_more(self):
        for reach in range(8):
            self.check(reach, "t" + "d" * reach + "u", True)
            self.check(reach, "t" + "d" * (reach + 1) + "u", False)
            self.check(reach, "o" + "t" + "d" * reach + "u" + "tu", True)
            self.check(reach, "o" + "t" + "d" * (reach + 1) + "u" + "tu", False)
        for deep in range(1, 5):
            self.check(2 * deep - 2, "t" * deep + "u" * deep, True)
            if deep > 1:
                self.check(2 * deep - 3, "t" * deep + "u" * deep, False)

    def test_counts_of_marks(self):
        for many in range(27):
            for text in ("o" * many, "d" * many, ("tu" * many)[:many] if many % 2 == 0 else "d" + "tu" * (many // 2)):
                self.check(7, text, 1 <= many <= 24)

    def test_other_things_in_a_marks_place(self):
        for odd in ("", "x", "U", "tu", "oo", "o\n", None, True, 0, b"o", ["o"], ("o",), {}, "touch"):
            for place in range(3):
                word = ("o",) * place + (odd,) + ("o",) * (2 - place)
                self.assertIs(is_word(7, word), False, word)
        for thing in (["o"], ["t", "u"], "o", "tu", {"o": 1}, {"o"}, None, True, 1):
            self.assertIs(is_word(7, thing), False, thing)

    def test_all_tuples_of_marks(self):
        for many in range(7):
            for word in itertools.product("dotu", repeat=many):
                for reach in range(many):
                    self.assertIs(is_word(reach, word), plainly_word(reach, word), (reach, word))

    def test_things_of_any_kind(self):
        for reach in (0, 7):
            for thing in itertools.chain(odd_things(), spoiled(("t", "d", "u")), spoiled(("o", "t", "u", "d"))):
                told = is_word(reach, thing)
                self.assertIs(told, plainly_word(reach, thing))
                self.assertIs(is_word(reach, thing), told)

    def test_nothing_handed_in_is_changed(self):
        for thing in (["t", "u"], (["t"], "u"), {"t": ["u"]}):
            before = copy.deepcopy(thing)
            self.assertIs(is_word(7, thing), False)
            self.assertEqual(thing, before)


class Ways(unittest.TestCase):
    def test_sheets_and_back(self):
        for many in range(1, 7):
            for start in (row_of(many), tuple(reversed(row_of(many)))):
                for reach in range(many):
                    words = []
                    for sheet, row in sound_sheets(start, reach).items():
                        word = marks_of(start, sheet)
                        self.assertTrue(is_plain(word))
                        self.assertIs(is_word(reach, word), True, (sheet, word))
                        self.assertEqual(sheet_by(start, word), sheet)
                        self.assertEqual(row_behind(start, sheet_by(start, word)), row)
                        words.append(word)
                    self.assertEqual(sorted(words), words_of(many, reach))

    def test_words_and_back(self):
        for many in range(1, 7):
            start = tuple(reversed(row_of(many)))
            for word in words_of(many, 7):
                sheet = sheet_by(start, word)
                self.assertTrue(is_plain(sheet))
                self.assertIs(is_sheet(sheet), True)
                self.assertEqual(order_of(start, 7, sheet)[0], "course")
                self.assertEqual(marks_of(start, sheet), word)
                touches = {("touch", start[u], start[t]) for t, u in plainly_closed(word)}
                self.assertEqual({event for event in sheet if event[0] == "touch"}, touches)
                drops = {boat for boat, mark in zip(start, word) if mark == "d"}
                self.assertEqual({event[1] for event in sheet if event[0] == "drop"}, drops)

    def test_by_hand(self):
        start = ("e", "d", "c", "b", "a")
        sheet = (("drop", "a"), ("touch", "b", "e"), ("touch", "c", "d"))
        self.assertEqual(marks_of(start, sheet), ("t", "t", "u", "u", "d"))
        self.assertEqual(sheet_by(start, ("t", "t", "u", "u", "d")), sheet)
        self.assertEqual(row_behind(start, sheet), ("b", "c", "d", "e", "a"))
        self.assertEqual(marks_of(start, ()), ("o",) * 5)
        self.assertEqual(sheet_by(start, ("o",) * 5), ())
        self.assertEqual(sheet_by(("a",), ("d",)), (("drop", "a"),))

    def test_long_starts(self):
        start = row_of(24)
        word = tuple("ttttuuuu" * 3)
        sheet = sheet_by(start, word)
        self.assertEqual(len(sheet), 12)
        self.assertEqual(order_of(start, 6, sheet)[0], "course")
        self.assertEqual(marks_of(start, sheet), word)
        self.assertEqual(row_behind(start, sheet), start[7::-1] + start[15:7:-1] + start[:15:-1])


if __name__ == "__main__":
    unittest.main()
