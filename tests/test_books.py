"""A book: points 23 to 26."""

import copy
import itertools
import random
import unittest

from touchboats.books import Book
from touchboats.days import day_behind
from touchboats.errors import BadTell, BoatError, NotTold, Told
from tests.helpers import (
    NAMES, all_events, asked_of, drawn_day, drawn_row, drawn_torn_day, is_plain, odd_things, plainly_book, plainly_crew,
    plainly_is_day, plainly_is_torn, plainly_number, plainly_why, row_of, spoiled,
)

MEETINGS = [(size, reach) for size in range(1, 9) for reach in range(8)]
NONE = (None, None)
DAY = ((("touch", "b", "a"),),)
TORN = ((("t", "u"), NONE),)


class Case(unittest.TestCase):
    def refused(self, call, *things):
        """The class of the refusal, or None where it is taken."""
        try:
            told = call(*things)
        except BoatError as error:
            self.assertIsInstance(error, ValueError)
            self.assertIsInstance(str(error), str)
            return type(error)
        self.assertIsNone(told)
        return None

    def holds(self, book, meeting, row, days, turns):
        """Holds all answers against a slow walk of what is told and stands."""
        wanted = plainly_book(meeting, row, days, turns)
        told = asked_of(book)
        self.assertTrue(is_plain(tuple(tuple(part) for part in told.values())))
        for name in ("morning", "evening", "state", "turned", "told"):
            self.assertEqual(told[name], wanted[name], (name, meeting, row, days, turns))
        for d in range(16):
            page = (wanted["state"][d], wanted["whys"][d])
            stands = wanted["morning"][d]
            self.assertTrue(plainly_why(meeting, stands, days.get(d), page, told["why"][d]), (d, told["why"][d]))
            if page[0] == "struck" and days[d][0] == "tell":
                self.assertEqual(("unsound",) + told["why"][d], day_behind(meeting, stands, days[d][1]))
        self.assertEqual(asked_of(book), told)
        return told

    def told_book(self, meeting, row, days, turns):
        """A book that was told just this, in time."""
        book = Book(meeting, row)
        for d in sorted(days):
            kind, thing = days[d]
            self.assertIsNone((book.tell if kind == "tell" else book.torn)(d, thing))
            if d % 4 == 3 and d // 4 in turns:
                self.assertIsNone(book.turn(d // 4, *turns[d // 4]))
        for y in turns:
            if y not in book.told()[1]:
                book.turn(y, *turns[y])
        return book


class Refusals(Case):
    """Point 23."""

    def setUp(self):
        # Day 0, day 5 and turn 1 are told.
        self.book = Book((2, 0), ("a", "b"))
        self.book.tell(0, DAY)
        self.book.torn(5, TORN)
        self.book.turn(1, ("a",), ("c",))
        self.before = asked_of(self.book)

    def check(self, wanted, call, *things):
        self.assertIs(self.refused(call, *things), wanted, things[:1])
        if wanted is not None:
            self.assertEqual(asked_of(self.book), self.before)

    def check_tell(self, d, day):
        good = plainly_number(d, 15) and plainly_is_day(day)
        self.check((Told if d in (0, 5) else None) if good else BadTell, self.book.tell, d, day)
        if good and d not in (0, 5):
            self.book.untell(d)

    def check_torn(self, d, sheets):
        good = plainly_number(d, 15) and plainly_is_torn(sheets)
        self.check((Told if d in (0, 5) else None) if good else BadTell, self.book.torn, d, sheets)
        if good and d not in (0, 5):
            self.book.untell(d)

    def check_turn(self, y, goes, comes):
        good = plainly_number(y, 2) and plainly_crew(goes) and plainly_crew(comes)
        self.check((Told if y == 1 else None) if good else BadTell, self.book.turn, y, goes, comes)
        if good and y != 1:
            self.book.unturn(y)

    def check_untell(self, d):
        good = plainly_number(d, 15)
        if good and d in (0, 5):
            return
        self.check(NotTold if good else BadTell, self.book.untell, d)

    def check_unturn(self, y):
        good = plainly_number(y, 2)
        if not good or y != 1:
            self.check(NotTold if good else BadTell, self.book.unturn, y)

    def test_each_day_and_turn(self):
        for d in range(16):
            self.check_tell(d, DAY)
            self.check_torn(d, TORN)
            self.check_untell(d)
        for y in range(3):
            self.check_turn(y, (), ())
            self.check_unturn(y)

    def test_numbers_of_any_kind(self):
        for d in [-1, 16, 17, 3, True, False, "0", b"0", (0,), [0], 10 ** 40, -10 ** 40] + odd_things():
            for day in (DAY, (), None):
                self.check_tell(d, day)
            for sheets in (TORN, (), None):
                self.check_torn(d, sheets)
            self.check_untell(d)
            for goes, comes in (((), ()), (("a", "a"), ()), (None, None)):
                self.check_turn(d, goes, comes)
            self.check_unturn(d)

    def test_things_of_any_kind(self):
        for thing in odd_things():
            for d in (0, 1, 5, 15, 16, True):
                self.check_tell(d, thing)
                self.check_tell(d, (thing,))
                self.check_tell(d, DAY + (thing,))
                self.check_torn(d, thing)
                self.check_torn(d, (thing,))
                self.check_torn(d, TORN + (thing,))
                self.check_torn(d, ((thing, NONE),))
                self.check_torn(d, ((NONE, thing),))
            for y in (0, 1, 3, True):
                self.check_turn(y, thing, ())
                self.check_turn(y, (), thing)
                self.check_turn(y, (thing,), ("c",))
                self.check_turn(y, ("a",), ("c", thing))

    def test_with_a_part_otherwise(self):
        for d in (0, 1):
            for args in spoiled((d, DAY)):
                if len(args) == 2:
                    self.check_tell(*args)
            for args in spoiled((d, TORN)):
                if len(args) == 2:
                    self.check_torn(*args)
            for args in spoiled((d, (("drop", "a"), ("touch", "b", "c")))):
                if len(args) == 2:
                    self.check_tell(args[0], (args[1],))
        for y in (0, 1):
            for args in spoiled((y, ("a",), ("c", "d"))):
                if len(args) == 3:
                    self.check_turn(*args)

    def test_days_of_each_count_of_sheets(self):
        for many in (0, 1, 2, 23, 24, 25):
            self.check_tell(2, ((),) * many)
            self.check_tell(0, ((),) * many)
            self.check_torn(2, TORN * many)
            self.check_torn(5, TORN * many)

    def test_torn_sheets_of_each_length(self):
        for one in range(12):
            for other in range(12):
                self.check_torn(7, (((None,) * one, (None,) * other),))
                self.check_torn(7, TORN + ((("o",) * one, ("a",) * other),))
        # A boat may stand there twice; and what is no mark or no boat may not.
        self.check_torn(7, ((("t", "t"), ("a", "a")),))
        for parts in ((("x", "u"), NONE), (("tu", None), NONE), (("", None), NONE), (NONE, ("A", None)),
                      (NONE, ("", None)), (NONE, ("a" * 9, None)), (NONE, ("a b", None)), ("tu", NONE), (NONE, "ab"),
                      (["t", "u"], NONE), (NONE, [None, None]), [NONE, NONE], (NONE,), (NONE, NONE, NONE)):
            self.check_torn(7, (parts,))
            self.check_torn(7, TORN + (parts,))

    def test_boats_that_go_and_come(self):
        for goes in ((), ("a",), ("a", "a"), NAMES[:24], NAMES[:25], ("A",), ["a"], "a", None):
            for comes in ((), ("a",), ("c", "d", "c"), NAMES[:24], NAMES[:25], ("a" * 9,), ["a"], "a", None):
                for y in (0, 1, 2, 3, -1):
                    self.check_turn(y, goes, comes)

    def test_told_by_one_of_both(self):
        for d, kind in ((0, "tell"), (5, "torn")):
            self.check(Told, self.book.tell, d, DAY)
            self.check(Told, self.book.torn, d, TORN)
            self.check(BadTell, self.book.tell, d, TORN)
            self.check(BadTell, self.book.torn, d, DAY)
        self.check(Told, self.book.turn, 1, (), ())
        self.assertEqual(self.book.told(), ((0, 5), (1,)))

    def test_taken_back_and_told_again(self):
        self.assertIsNone(self.book.untell(0))
        self.assertIs(self.refused(self.book.untell, 0), NotTold)
        self.assertIsNone(self.book.torn(0, TORN))
        self.assertIs(self.refused(self.book.tell, 0, DAY), Told)
        self.assertIsNone(self.book.unturn(1))
        self.assertIs(self.refused(self.book.unturn, 1), NotTold)
        self.assertIsNone(self.book.turn(1, (), ("b",)))
        self.assertIs(self.refused(self.book.turn, 1, (), ("b",)), Told)
        self.assertEqual(self.book.told(), ((0, 5), (1,)))

    def test_nothing_handed_in_is_changed(self):
        for thing in (["a"], [DAY], [TORN], ([("drop", "a")],), (["drop", "a"],), {"a": 1}, {"a"}, [[]], (TORN, [])):
            before = copy.deepcopy(thing)
            for call in (self.book.tell, self.book.torn):
                self.assertIs(self.refused(call, 1, thing), BadTell)
            self.assertIs(self.refused(self.book.turn, 0, thing, thing), BadTell)
            self.assertEqual(thing, before)


class DaysByHand(Case):
    """Point 24."""

    ROW = ("a", "b", "c", "d")

    def one_day(self, meeting, kind, thing, row=ROW):
        days = {0: (kind, thing)}
        told = self.holds(self.told_book(meeting, row, days, {}), meeting, row, days, {})
        self.assertEqual(told["morning"][1], told["evening"][0])
        return (told["state"][0], told["evening"][0], told["why"][0])

    def test_untold(self):
        book = Book((2, 0), self.ROW)
        told = self.holds(book, (2, 0), self.ROW, {}, {})
        self.assertEqual(told["morning"], [self.ROW] + [None] * 16)
        self.assertEqual(told["state"], ["untold"] * 16)
        self.assertEqual(told["turned"], ["untold"] * 3)
        self.assertEqual(told["told"], ((), ()))

    def test_told(self):
        day = ((("touch", "d", "b"),), (("touch", "d", "c"),))
        self.assertEqual(self.one_day((2, 0), "tell", day), ("sound", ("a", "d", "b", "c"), None))
        self.assertEqual(self.one_day((2, 0), "tell", day[::-1])[:2], ("struck", self.ROW))
        self.assertEqual(self.one_day((2, 0), "tell", day[:1]), ("struck", self.ROW, (None, ("races", 2))))
        self.assertEqual(self.one_day((4, 0), "tell", day), ("struck", self.ROW, (None, ("races", 1))))
        # The lower race was sound, and counts for nothing.
        day = ((("touch", "d", "a"),), (("touch", "d", "c"),))
        self.assertEqual(self.one_day((2, 0), "tell", day), ("struck", self.ROW, (0, ("far", ("touch", "d", "a")))))
        self.assertEqual(self.one_day((2, 0), "tell", ((), (("drop", "a"),))), ("struck", self.ROW, (1, ("strange", "a"))))

    def test_another_count_of_sheets(self):
        for many in (1, 3, 24):
            sheets = ((NONE, NONE),) * many
            self.assertEqual(self.one_day((2, 0), "torn", sheets), ("struck", self.ROW, (None, None)))

    def test_whole(self):
        three, two = (None,) * 3, (None,) * 2
        sheets = ((three, ("a", "d", "b")), (("t", None), two))
        self.assertEqual(self.one_day((2, 0), "torn", sheets), ("whole", ("a", "d", "b", "c"), None))
        # Words that fit differ in their drops, and lead to one row.
        sheets = ((three, ("a", "b", "c")), ((None, "d"), two))
        self.assertEqual(self.one_day((2, 0), "torn", sheets), ("whole", self.ROW, None))
        sheets = (((None,) * 4, ("d", None, None, None)),)
        self.assertEqual(self.one_day((4, 2), "torn", sheets)[0], "open")
        sheets = (((None, "d", None, None), ("d", None, None, None)),)
        self.assertEqual(self.one_day((4, 2), "torn", sheets), ("whole", ("d", "b", "c", "a"), None))

    def test_which_race_ends_it(self):
        three, two = ((None,) * 3,) * 2, ((None,) * 2,) * 2
        stays = ((None,) * 2, ("c", "d"))
        # Race 1 goes first.
        self.assertEqual(self.one_day((2, 0), "torn", (two, three)), ("struck", self.ROW, (1, None)))
        self.assertEqual(self.one_day((2, 0), "torn", (two, two)), ("open", None, None))
        self.assertEqual(self.one_day((2, 0), "torn", (two, stays)), ("struck", self.ROW, (0, None)))
        self.assertEqual(self.one_day((2, 0), "torn", (three, stays)), ("open", None, None))
        # No word fits, by the marks or the boats.
        for sheet in ((("u", None), NONE), (("o", None), ("d", None)), (NONE, ("a", None)), (NONE, ("c", "c"))):
            self.assertEqual(self.one_day((2, 0), "torn", (three, sheet)), ("struck", self.ROW, (1, None)))
        # What stands in race 0 comes of race 1.
        sheets = (((None,) * 3, ("a", "b", "c")), (("t", "u"), NONE))
        self.assertEqual(self.one_day((2, 0), "torn", sheets), ("struck", self.ROW, (0, None)))
        sheets = (((None,) * 3, ("a", "b", "d")), (("t", "u"), NONE))
        self.assertEqual(self.one_day((2, 0), "torn", sheets), ("whole", ("a", "b", "d", "c"), None))

    def test_starts_of_more_than_7_boats(self):
        def sheet(many):
            return (("o",) * many, (None,) * many)

        for n, size, state in ((7, 8, "whole"), (7, 7, "whole"), (8, 8, "open"), (8, 7, "open"), (9, 8, "open"),
                               (7, 6, "whole"), (24, 6, "whole"), (24, 7, "open"), (24, 8, "open")):
            row = row_of(n)
            heads = range(0, n, size)
            sheets = tuple(sheet(min(size + 1, n - head)) for head in heads)
            told = self.one_day((size, 7), "torn", sheets, row)
            self.assertEqual(told, (state, row if state == "whole" else None, None), (n, size))
        # A sheet of another length strikes it, however many start.
        self.assertEqual(self.one_day((8, 7), "torn", (sheet(7),), row_of(8)), ("struck", row_of(8), (0, None)))
        self.assertEqual(self.one_day((8, 7), "torn", (sheet(9),), row_of(8)), ("struck", row_of(8), (0, None)))
        # And a start of so many ends it, where no word would fit either.
        none = (("u",) * 8, (None,) * 8)
        self.assertEqual(self.one_day((8, 7), "torn", (none,), row_of(8)), ("open", None, None))
        self.assertEqual(self.one_day((7, 7), "torn", ((("u",) * 7, (None,) * 7),), row_of(7))[0], "struck")
        # Ahead of it goes the lower race.
        lower = (("u",), (None,))
        self.assertEqual(self.one_day((8, 7), "torn", (sheet(9), lower), row_of(9)), ("struck", row_of(9), (1, None)))

    def test_mornings_over_the_years_and_the_turns(self):
        row = ("a", "b")
        days = {d: ("tell", ((("touch", "ba"[d % 2], "ab"[d % 2]),),)) for d in range(16)}
        turns = {y: ((), ()) for y in range(3)}
        told = self.holds(self.told_book((2, 0), row, days, turns), (2, 0), row, days, turns)
        self.assertEqual(told["state"], ["sound"] * 16)
        self.assertEqual(told["turned"], ["sound"] * 3)
        self.assertEqual(told["morning"], [row, row[::-1]] * 8 + [row])
        self.assertEqual(told["evening"], told["morning"][1:])
        # Without a turn nothing of the later years is known, without a day nothing behind it.
        for y in range(3):
            fewer = {z: turns[z] for z in turns if z != y}
            told = self.holds(self.told_book((2, 0), row, days, fewer), (2, 0), row, days, fewer)
            self.assertEqual(told["state"], ["sound"] * (4 * y + 4) + ["waits"] * (12 - 4 * y))
            self.assertEqual(told["turned"], ["sound"] * y + ["untold"] + ["waits"] * (2 - y))
            self.assertEqual([d for d in range(17) if told["morning"][d] is None], list(range(4 * y + 4, 17)))
        for d in range(16):
            fewer = {e: days[e] for e in days if e != d}
            told = self.holds(self.told_book((2, 0), row, fewer, turns), (2, 0), row, fewer, turns)
            self.assertEqual(told["state"], ["sound"] * d + ["untold"] + ["waits"] * (15 - d))
            self.assertEqual([e for e in range(17) if told["morning"][e] is None], list(range(d + 1, 17)))
            self.assertEqual([e for e in range(16) if told["evening"][e] is None], list(range(d, 16)))

    def test_a_struck_day_goes_on_and_an_open_one_does_not(self):
        row = ("a", "b")
        days = {0: ("tell", ((("touch", "a", "b"),),)), 1: ("torn", ((NONE, NONE),) * 2), 2: ("torn", ((NONE, NONE),)),
                3: ("tell", ((),))}
        told = self.holds(self.told_book((2, 0), row, days, {0: ((), ("c",))}), (2, 0), row, days, {0: ((), ("c",))})
        self.assertEqual(told["state"][:5], ["struck", "struck", "open", "waits", "untold"])
        self.assertEqual(told["turned"], ["waits", "untold", "untold"])
        self.assertEqual(told["morning"][:4], [row, row, row, None])
        self.assertEqual(told["why"][:4], [(0, ("wrong", ("touch", "a", "b"))), (None, None), None, None])


class TurnsByHand(Case):
    """Point 25."""

    def one_turn(self, row, goes, comes):
        meeting = (8, 0)
        sheets = ((),) * ((len(row) + 7) // 8)
        days = {d: ("tell", sheets) for d in range(4)}
        turns = {0: (goes, comes)}
        told = self.holds(self.told_book(meeting, row, days, turns), meeting, row, days, turns)
        self.assertEqual(told["evening"][3], row)
        return (told["turned"][0], told["morning"][4])

    def test_turns(self):
        row = ("d", "b", "c", "a")
        for goes, comes, behind in (
            ((), (), row),
            (("b",), (), ("d", "c", "a")),
            ((), ("f", "e"), ("d", "b", "c", "a", "f", "e")),
            (("a", "d"), ("e",), ("b", "c", "e")),
            (("a", "b", "c", "d"), ("e",), ("e",)),
            (("a", "b", "c", "d"), (), None),
            (("e",), (), None),
            (("a", "e"), ("f",), None),
            ((), ("a",), None),
            ((), ("e", "a"), None),
            (("a",), ("a",), None),
            (("a", "b"), ("e", "b"), None),
            (("e",), ("e",), None),
        ):
            wanted = ("struck", row) if behind is None else ("sound", behind)
            self.assertEqual(self.one_turn(row, goes, comes), wanted, (goes, comes))

    def test_more_than_24_or_none_left(self):
        row = NAMES[:24]
        self.assertEqual(self.one_turn(row, (), (NAMES[24],)), ("struck", row))
        self.assertEqual(self.one_turn(row, row[:1], (NAMES[24],)), ("sound", NAMES[1:25]))
        self.assertEqual(self.one_turn(row, row, (NAMES[24],)), ("sound", (NAMES[24],)))
        self.assertEqual(self.one_turn(row, row, ()), ("struck", row))
        self.assertEqual(self.one_turn(row, row[1:], ()), ("sound", row[:1]))
        self.assertEqual(self.one_turn(row[:1], (), NAMES[1:24]), ("sound", NAMES[:24]))
        self.assertEqual(self.one_turn(row[:1], (), NAMES[1:25]), ("struck", row[:1]))
        self.assertEqual(self.one_turn(row[:2], row[:1], NAMES[2:25]), ("sound", NAMES[1:25]))
        self.assertEqual(self.one_turn(row[:2], (), NAMES[2:25]), ("struck", row[:2]))

    def test_a_turn_that_waits(self):
        book = Book((2, 0), ("a", "b"))
        book.turn(0, ("a",), ("c",))
        self.assertEqual(book.turned(0), "waits")
        for d in (3, 2, 1, 0):
            book.tell(d, ((),))
            self.assertEqual(book.turned(0), "sound" if d == 0 else "waits")
        self.assertEqual(book.morning(4), ("b", "c"))
        book.untell(2)
        self.assertEqual((book.turned(0), book.morning(4)), ("waits", None))


class Drawn(Case):
    """Points 23 to 26, against a slow walk of what is told and stands."""

    def drawn_telling(self, chance, meeting, row, n, much=(3, 7, 9, 10)):
        """What is told of a day, mostly such as fits its morning; of a torn one about so much of ten."""
        stands = drawn_row(chance, n) if row is None or chance.random() < 0.1 else row
        if chance.random() < 0.5:
            day = drawn_day(chance, meeting, stands)
            if chance.random() < 0.3:
                k = chance.randrange(len(day))
                event = chance.choice(all_events(stands + NAMES[-1:]))
                day = day[:k] + (tuple(sorted({*day[k], event})),) + day[k + 1:]
            return ("tell", day if chance.random() < 0.95 else day[1:] or day * 2)
        sheets = drawn_torn_day(chance, meeting, stands, chance.choice(much))
        if chance.random() < 0.3:
            k = chance.randrange(len(sheets))
            marks, behind = sheets[k]
            at = chance.randrange(len(marks))
            if chance.random() < 0.5:
                marks = marks[:at] + (chance.choice("udot"),) + marks[at + 1:]
            else:
                behind = behind[:at] + (chance.choice(stands),) + behind[at + 1:]
            sheets = sheets[:k] + ((marks, behind),) + sheets[k + 1:]
        return ("torn", sheets if chance.random() < 0.95 else sheets[1:] or sheets * 2)

    def drawn_turn(self, chance, row, n):
        stands = drawn_row(chance, n) if row is None else row
        goes = tuple(chance.sample(stands, min(chance.choice((0, 0, 1, 2)), len(stands))))
        away = [name for name in NAMES[:24] if name not in stands]
        comes = tuple(chance.sample(away, min(chance.choice((0, 0, 1, 2)), len(away))))
        if chance.random() < 0.2:
            comes = tuple({boat: True for boat in comes + (chance.choice(stands),)})
        return (goes, comes)

    def drawn_story(self, chance, meeting, n):
        """All days and turns, each drawn by the row that the ones ahead lead to."""
        row = drawn_row(chance, n)
        days, turns = {}, {}
        # In some nothing stays open, so that the last days are known too.
        much = chance.choice(((3, 7, 9, 10), (10,)))
        for d in range(16):
            told = plainly_book(meeting, row, days, turns)
            days[d] = self.drawn_telling(chance, meeting, told["morning"][d], n, much)
            if d in (3, 7, 11):
                told = plainly_book(meeting, row, days, turns)
                turns[d // 4] = self.drawn_turn(chance, told["evening"][d], n)
        return row, days, turns

    def call(self, book, kind, at, thing):
        if kind == "turn":
            return book.turn(at, *thing)
        return (book.tell if kind == "tell" else book.torn)(at, thing)

    def test_stories_told_in_time_and_in_any_order(self):
        chance = random.Random(100)
        states = {}
        lasts = 0
        for meeting in MEETINGS * 2:
            n = chance.choice((1, 2, 3, 4, 5, 8, 12, 24))
            row, days, turns = self.drawn_story(chance, meeting, n)
            told = self.holds(self.told_book(meeting, row, days, turns), meeting, row, days, turns)
            lasts += told["morning"][16] is not None
            for state in told["state"] + told["turned"]:
                states[state] = states.get(state, 0) + 1
            calls = [(days[d][0], d, days[d][1]) for d in days] + [("turn", y, turns[y]) for y in turns]
            for _ in range(2):
                chance.shuffle(calls)
                book = Book(meeting, row)
                for k, one in enumerate(calls):
                    self.call(book, *one)
                    if k % 6 == 5:
                        # What is asked on the way changes nothing.
                        asked_of(book)
                self.assertEqual(asked_of(book), told)
        self.assertEqual(set(states), {"sound", "struck", "open", "whole", "waits"})
        self.assertGreater(min(states.values()), 30)
        self.assertGreater(lasts, 20)

    def test_each_answer_behind_each_call(self):
        chance = random.Random(101)
        for meeting in MEETINGS:
            n = chance.choice((1, 2, 3, 4, 5, 9))
            row, days, turns = self.drawn_story(chance, meeting, n)
            book = Book(meeting, row)
            stand_days, stand_turns = {}, {}
            self.holds(book, meeting, row, {}, {})
            for _ in range(45):
                self.one_call(chance, book, meeting, n, (days, turns), (stand_days, stand_turns))
                self.holds(book, meeting, row, stand_days, stand_turns)
            fresh = self.told_book(meeting, row, stand_days, stand_turns)
            self.assertEqual(asked_of(fresh), asked_of(book))

    def one_call(self, chance, book, meeting, n, story, stands):
        days, turns = stands
        if chance.random() < 0.2:
            y = chance.randrange(3)
            if y in turns and chance.random() < 0.5:
                self.assertIs(self.refused(book.turn, y, (), ()), Told)
            elif y in turns:
                self.assertIsNone(self.refused(book.unturn, y))
                del turns[y]
            else:
                self.assertIs(self.refused(book.unturn, y), NotTold)
                turns[y] = story[1][y] if chance.random() < 0.7 else self.drawn_turn(chance, None, n)
                self.assertIsNone(self.refused(book.turn, y, *turns[y]))
            return
        # The next one that isn't told, most often, so that much is known.
        untold = [d for d in range(16) if d not in days]
        d = min(untold) if untold and chance.random() < 0.5 else chance.randrange(16)
        if d in days and chance.random() < 0.3:
            self.assertIs(self.refused(book.tell, d, ((),)), Told)
            self.assertIs(self.refused(book.torn, d, TORN), Told)
        elif d in days:
            self.assertIsNone(self.refused(book.untell, d))
            del days[d]
        else:
            self.assertIs(self.refused(book.untell, d), NotTold)
            days[d] = story[0][d] if chance.random() < 0.7 else self.drawn_telling(chance, meeting, book.morning(d), n)
            self.assertIsNone(self.refused(self.call, book, days[d][0], d, days[d][1]))

    def test_told_otherwise_taken_back_and_told_again(self):
        chance = random.Random(102)
        for meeting in MEETINGS[1::4]:
            n = chance.choice((2, 3, 4, 6))
            row, days, turns = self.drawn_story(chance, meeting, n)
            told = asked_of(self.told_book(meeting, row, days, turns))
            book = Book(meeting, row)
            for d in chance.sample(range(16), 16):
                other = self.drawn_telling(chance, meeting, None, n)
                self.call(book, other[0], d, other[1])
            for y in chance.sample(range(3), 3):
                book.turn(y, *self.drawn_turn(chance, None, n))
            for d in chance.sample(range(16), 16):
                book.untell(d)
                self.call(book, days[d][0], d, days[d][1])
                self.assertEqual(book.morning(0), row)
            for y in chance.sample(range(3), 3):
                book.unturn(y)
                book.turn(y, *turns[y])
            self.assertEqual(asked_of(book), told)

    def test_two_books_beside_one_another(self):
        chance = random.Random(103)
        for meeting in MEETINGS[2::7]:
            stories = [self.drawn_story(chance, meeting, chance.choice((2, 3, 5))) for _ in range(2)]
            told = [asked_of(self.told_book(meeting, *story)) for story in stories]
            books = [Book(meeting, story[0]) for story in stories]
            for d in range(16):
                for book, (row, days, turns) in zip(books, stories):
                    self.call(book, days[d][0], d, days[d][1])
                    if d % 4 == 3 and d < 15:
                        book.turn(d // 4, *turns[d // 4])
            self.assertEqual([asked_of(book) for book in books], told)
            books[0].untell(0)
            self.assertEqual(asked_of(books[1]), told[1])
            self.assertEqual(books[0].morning(1), None)


class SmallBooks(Case):
    def test_all_days_of_two_boats_one_behind_the_other(self):
        row = ("a", "b")
        sheets = [(), (("drop", "a"),), (("touch", "a", "b"),), (("touch", "b", "a"),)]
        tellings = [None] + [("tell", (sheet,)) for sheet in sheets]
        tellings += [("torn", ((marks, behind),)) for marks in ((None, None), ("t", None), ("o", "o"))
                     for behind in ((None, None), ("b", None))]
        for parts in itertools.product(tellings, repeat=3):
            days = {d: part for d, part in enumerate(parts) if part is not None}
            book = Book((2, 0), row)
            for d in reversed(range(3)):
                if d in days:
                    (book.tell if days[d][0] == "tell" else book.torn)(d, days[d][1])
            self.holds(book, (2, 0), row, days, {})


if __name__ == "__main__":
    unittest.main()
