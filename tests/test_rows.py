"""Boats, rows and meetings: points 4 and 5."""

import copy
import unittest

from touchboats.rows import exchanged, is_boat, is_meeting, is_row, races_of, span
from tests.helpers import is_plain, odd_things, plainly_boat, plainly_boats, row_of, spoiled

# Signs just about a to z, and small letters of other alphabets among them.
NO_LETTERS = "AMZ0189 -_`{@[.\n\t\r\0\x7f\u00e9\u00df\u00aa\u0131\u03b1\u0430\uff41\U0001d41a\ud800"


def plainly_row(thing):
    return plainly_boats(thing) and 1 <= len(thing) <= 24 and len(set(thing)) == len(thing)


def plainly_meeting(thing):
    if type(thing) is not tuple or len(thing) != 2 or type(thing[0]) is not int or type(thing[1]) is not int:
        return False
    return thing[0] in range(1, 9) and thing[1] in range(8)


class Boats(unittest.TestCase):
    def test_one_to_eight_letters(self):
        for many in range(1, 9):
            self.assertIs(is_boat("abcdefgh"[:many]), True)
            self.assertIs(is_boat("z" * many), True)

    def test_none_and_nine_letters(self):
        for text in ("", "abcdefghi", "a" * 10, "a" * 1000):
            self.assertIs(is_boat(text), False, text)

    def test_each_sign_by_itself(self):
        for number in range(0x500):
            self.assertIs(is_boat(chr(number)), 97 <= number <= 122, number)

    def test_another_sign_at_each_place(self):
        for many in range(1, 9):
            for place in range(many):
                for sign in NO_LETTERS:
                    text = "a" * place + sign + "z" * (many - place - 1)
                    self.assertIs(is_boat(text), False, ascii(text))

    def test_a_line_feed_behind(self):
        for many in range(10):
            self.assertIs(is_boat("a" * many + "\n"), False)

    def test_bytes_and_wrapped_names_are_none(self):
        for thing in (b"a", bytearray(b"a"), ["a"], ("a",), {"a": "a"}, {"a"}, None, True, 1):
            self.assertIs(is_boat(thing), False, thing)


class Rows(unittest.TestCase):
    def test_counts_of_boats(self):
        for many in range(25):
            self.assertIs(is_row(row_of(many)), 1 <= many <= 24, many)
        self.assertEqual(len(row_of(25)), 25)
        self.assertIs(is_row(row_of(25)), False)
        self.assertIs(is_row(row_of(25) * 4), False)

    def test_two_alike_at_any_two_places(self):
        for many in range(2, 25):
            for one in range(many):
                for other in range(one + 1, many):
                    row = list(row_of(many))
                    # Made anew, so that it is the same text but another object.
                    row[other] = "".join(list(row[one]))
                    self.assertIs(is_row(tuple(row)), False, (many, one, other))

    def test_what_is_no_boat_at_each_place(self):
        for many in range(1, 25):
            for place in range(many):
                for odd in ("", "A", "abcdefghi", "a\n", None, 1, True, b"a", ["a"], ("a",), {}):
                    row = row_of(many)[:place] + (odd,) + row_of(many)[place + 1:]
                    self.assertIs(is_row(row), False, row)

    def test_a_list_is_no_row(self):
        for thing in (["a"], ["a", "b"], {"a": 1}, {"a"}, "a", "ab", b"ab", None, range(2)):
            self.assertIs(is_row(thing), False, thing)

    def test_order_is_free(self):
        self.assertIs(is_row(("z", "a", "m")), True)


class Meetings(unittest.TestCase):
    def test_all_numbers_about_the_bounds(self):
        for size in range(-3, 13):
            for reach in range(-3, 13):
                self.assertIs(is_meeting((size, reach)), 1 <= size <= 8 and 0 <= reach <= 7, (size, reach))
        for far in (10 ** 40, -10 ** 40):
            self.assertIs(is_meeting((far, 0)), False)
            self.assertIs(is_meeting((1, far)), False)

    def test_a_truth_is_no_number(self):
        for thing in ((True, 0), (True, True), (1, False), (1, True), (True, 1), (8, False)):
            self.assertIs(is_meeting(thing), False, thing)

    def test_other_forms(self):
        for thing in ([1, 0], (1,), (1, 0, 0), (), ("1", "0"), (None, 0), (1, None), ((1, 0),), {1: 0}, "10", b"\x01\x00"):
            self.assertIs(is_meeting(thing), False, thing)


class OfAnything(unittest.TestCase):
    def check(self, ask, slow, thing):
        told = ask(thing)
        self.assertIs(type(told), bool)
        self.assertIs(told, slow(thing))
        self.assertIs(ask(thing), told)

    def test_things_of_any_kind(self):
        for ask, slow in ((is_boat, plainly_boat), (is_row, plainly_row), (is_meeting, plainly_meeting)):
            for thing in odd_things():
                self.check(ask, slow, thing)

    def test_sound_things_spoiled_at_one_place(self):
        for thing in spoiled(("a", "bc", "d")):
            self.check(is_row, plainly_row, thing)
        for thing in spoiled((1, 0)):
            self.check(is_meeting, plainly_meeting, thing)

    def test_nothing_handed_in_is_changed(self):
        for thing in (["a", "b"], {"a": ["b"]}, [1, 0], (["a"], "b"), [[], [[]]], {"a"}):
            before = copy.deepcopy(thing)
            for ask in (is_boat, is_row, is_meeting):
                self.assertIs(ask(thing), False)
                self.assertEqual(thing, before)


class Divisions(unittest.TestCase):
    def test_each_size_and_count(self):
        for size in range(1, 9):
            for n in range(1, 25):
                divisions = [list(range(n))[at:at + size] for at in range(0, n, size)]
                for reach in range(8):
                    meeting = (size, reach)
                    many = races_of(meeting, n)
                    self.assertIs(type(many), int)
                    self.assertEqual(many, len(divisions), (meeting, n))
                    for k, places in enumerate(divisions):
                        last = divisions[k + 1][0] if k + 1 < len(divisions) else places[-1]
                        told = span(meeting, n, k)
                        self.assertTrue(is_plain(told))
                        self.assertEqual(told, (places[0], last), (meeting, n, k))

    def test_by_hand(self):
        self.assertEqual(races_of((4, 2), 9), 3)
        self.assertEqual([span((4, 2), 9, k) for k in range(3)], [(0, 4), (4, 8), (8, 8)])
        self.assertEqual(races_of((4, 2), 8), 2)
        self.assertEqual([span((4, 2), 8, k) for k in range(2)], [(0, 4), (4, 7)])
        self.assertEqual([span((1, 0), 3, k) for k in range(3)], [(0, 1), (1, 2), (2, 2)])
        self.assertEqual(races_of((8, 7), 1), 1)
        self.assertEqual(span((8, 7), 1, 0), (0, 0))
        self.assertEqual([span((8, 7), 24, k) for k in range(3)], [(0, 8), (8, 16), (16, 23)])


class Exchanges(unittest.TestCase):
    def test_any_two_places(self):
        for many in (1, 2, 3, 7, 24):
            row = row_of(many)
            for one in range(many):
                for other in range(many):
                    told = exchanged(row, one, other)
                    self.assertTrue(is_plain(told))
                    wanted = {one: row[other], other: row[one]}
                    self.assertEqual(told, tuple(wanted.get(at, boat) for at, boat in enumerate(row)))
                    self.assertEqual(exchanged(row, other, one), told)
                    self.assertEqual(exchanged(told, one, other), row)
                    self.assertEqual(row, row_of(many))

    def test_one_place_twice(self):
        self.assertEqual(exchanged(("a", "b", "c"), 1, 1), ("a", "b", "c"))

    def test_by_hand(self):
        self.assertEqual(exchanged(("a", "b", "c"), 0, 2), ("c", "b", "a"))
        self.assertEqual(exchanged(("a", "b", "c"), 2, 1), ("a", "c", "b"))


if __name__ == "__main__":
    unittest.main()
