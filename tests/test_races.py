"""A race: points 6 and 7, and the reasons of point 8 that order_of tells."""

import copy
import itertools
import random
import unittest

from touchboats.races import gone_by, is_event, is_sheet, order_of, row_behind, sheet_of
from tests.helpers import (
    all_events, all_sheets, is_plain, odd_things, plainly_event, plainly_gone, plainly_reason, plainly_sheet,
    row_of, sheets_once, sound_sheets, spoiled,
)

ABCDE = ("a", "b", "c", "d", "e")


def drop(x):
    return ("drop", x)


def touch(x, y):
    return ("touch", x, y)


class Events(unittest.TestCase):
    def test_what_is_one(self):
        for thing in (drop("a"), drop("abcdefgh"), touch("a", "b"), touch("b", "a"), touch("abcdefgh", "abcdefgi"),
                      drop("drop"), touch("touch", "drop")):
            self.assertIs(is_event(thing), True, thing)

    def test_what_is_none(self):
        for thing in (touch("a", "a"), ("drop",), ("drop", "a", "b"), ("touch", "a"), ("touch", "a", "b", "c"), (),
                      ("touch",), ["drop", "a"], ["touch", "a", "b"], ("drop", ["a"]), ("touch", ("a", "b")),
                      ("Drop", "a"), ("", "a"), ("a", "drop"), ("drop", ""), ("drop", "abcdefghi"), ("drop", "A"),
                      ("touch", "", "a"), ("touch", "a", ""), ("touch", "a", "B"), ("touch", "B", "a"), (b"drop", "a"),
                      ("drop", b"a"), ("drop", None), (None, "a"), ("touch", "a", None), ("touch", None, "a"),
                      ("drop", 1), ("drop", True), "drop", "drop a", {"drop": "a"}, None, True, 0):
            self.assertIs(is_event(thing), False, thing)


class Sheets(unittest.TestCase):
    def test_what_is_one(self):
        for thing in ((), (drop("a"),), (touch("a", "b"),), (drop("a"), drop("b")), (drop("z"), touch("a", "b")),
                      (touch("a", "b"), touch("a", "c"), touch("b", "a")), (drop("a"), drop("aa"), drop("b"))):
            self.assertIs(is_sheet(thing), True, thing)

    def test_what_is_none(self):
        for thing in ((drop("b"), drop("a")), (touch("a", "b"), drop("a")), (drop("a"), drop("a")),
                      (touch("a", "b"), touch("a", "b")), [], [drop("a")], (["drop", "a"],), (touch("a", "a"),),
                      drop("a"), (None,), ((),), (drop("a"), None), None, "", {}, set(), {drop("a"): 1}, True, 0):
            self.assertIs(is_sheet(thing), False, thing)

    def test_two_exchanged_and_one_twice_at_any_place(self):
        events = tuple(sorted(all_events(("a", "b", "c"))))
        self.assertIs(is_sheet(events), True)
        for at in range(len(events)):
            self.assertIs(is_sheet(events[:at] + (events[at],) + events[at:]), False)
            for other in range(at + 1, len(events)):
                turned = list(events)
                turned[at], turned[other] = turned[other], turned[at]
                self.assertIs(is_sheet(tuple(turned)), False)

    def test_no_bound_to_how_long_it_is(self):
        self.assertIs(is_sheet(tuple(sorted(all_events(row_of(24))))), True)

    def test_sheet_of_any_order_some_twice(self):
        chance = random.Random(1)
        events = tuple(sorted(all_events(ABCDE)))
        for _ in range(300):
            wanted = tuple(event for event in events if chance.random() < 0.3)
            told = list(wanted + tuple(event for event in wanted if chance.random() < 0.5))
            chance.shuffle(told)
            told = tuple(told)
            before = copy.deepcopy(told)
            self.assertEqual(sheet_of(told), wanted)
            self.assertIs(type(sheet_of(told)), tuple)
            self.assertEqual(told, before)
            self.assertIs(is_sheet(sheet_of(told)), True)
        self.assertEqual(sheet_of(()), ())
        self.assertEqual(sheet_of((touch("b", "a"), drop("c"), touch("b", "a"))), (drop("c"), touch("b", "a")))


class OfAnything(unittest.TestCase):
    def check(self, ask, slow, thing):
        told = ask(thing)
        self.assertIs(type(told), bool)
        self.assertIs(told, slow(thing))
        self.assertIs(ask(thing), told)

    def test_things_of_any_kind(self):
        for ask, slow in ((is_event, plainly_event), (is_sheet, plainly_sheet)):
            for thing in odd_things():
                self.check(ask, slow, thing)

    def test_sound_things_spoiled_at_one_place(self):
        for event in (drop("a"), touch("a", "b")):
            for thing in spoiled(event):
                self.check(is_event, plainly_event, thing)
        for thing in spoiled((drop("c"), touch("a", "b"))):
            self.check(is_sheet, plainly_sheet, thing)

    def test_nothing_handed_in_is_changed(self):
        for thing in (["drop", "a"], [["drop", "b"], ["drop", "a"]], ([drop("b"), drop("a")],), {"drop": ["a"]}):
            before = copy.deepcopy(thing)
            self.assertIs(is_event(thing), False)
            self.assertIs(is_sheet(thing), False)
            self.assertEqual(thing, before)


class GoneBy(unittest.TestCase):
    # Each way in which an event can't be: what goes ahead of it, the event, the reach.
    CANNOT = (
        ((), drop("z"), 7),
        ((), touch("z", "a"), 7),
        ((), touch("b", "z"), 7),
        ((drop("b"),), drop("b"), 7),
        ((drop("b"),), touch("b", "a"), 7),
        ((drop("b"),), touch("c", "b"), 7),
        ((touch("c", "b"),), drop("c"), 7),
        ((touch("c", "b"),), drop("b"), 7),
        ((touch("c", "b"),), touch("c", "b"), 7),
        ((), touch("a", "b"), 7),
        ((drop("b"),), touch("a", "c"), 7),
        ((), touch("c", "a"), 7),
        ((drop("b"),), touch("d", "a"), 7),
        ((drop("c"),), touch("d", "a"), 7),
        ((drop("b"),), touch("c", "a"), 0),
        ((drop("b"), drop("c")), touch("d", "a"), 1),
        ((touch("c", "b"),), touch("d", "a"), 1),
        ((drop("b"), drop("c"), drop("d")), touch("e", "a"), 2),
    )

    def test_each_way_it_cannot_be(self):
        for ahead, event, reach in self.CANNOT:
            self.assertEqual(gone_by(ABCDE, reach, ahead + (event,)), ("stuck", len(ahead)), (ahead, event))

    def test_each_way_at_a_later_event(self):
        longer = ("p", "q") + ABCDE + ("r",)
        first = (drop("r"), touch("q", "p"))
        for ahead, event, reach in self.CANNOT:
            told = gone_by(longer, reach, first + ahead + (event,))
            self.assertEqual(told, ("stuck", 2 + len(ahead)), (ahead, event))

    def test_the_first_that_cannot_be_is_told(self):
        for ahead, event, reach in self.CANNOT:
            for behind in (drop("z"), event, drop("e")):
                self.assertEqual(gone_by(ABCDE, reach, ahead + (event, behind)), ("stuck", len(ahead)))

    def test_just_reach_boats_between(self):
        for reach in range(8):
            start = row_of(reach + 3)
            drops = tuple(drop(boat) for boat in start[1:-1])
            inner = (touch(start[reach + 1], start[0]),)
            row = (start[reach + 1],) + start[1:reach + 1] + (start[0], start[-1])
            self.assertEqual(gone_by(start, reach, drops[:-1] + inner), ("course", row))
            outer = (touch(start[-1], start[0]),)
            self.assertEqual(gone_by(start, reach, drops + outer), ("stuck", reach + 1))
            row = (start[-1],) + start[1:-1] + (start[0],)
            self.assertEqual(gone_by(start, reach + 1, drops + outer), ("course", row))

    def test_touches_pass_over_boats_that_are_out(self):
        self.assertEqual(gone_by(ABCDE, 2, (touch("c", "b"), touch("d", "a"))), ("course", ("d", "c", "b", "a", "e")))
        self.assertEqual(gone_by(ABCDE, 3, (drop("d"), touch("c", "b"), touch("e", "a"))),
                         ("course", ("e", "c", "b", "d", "a")))
        self.assertEqual(gone_by(ABCDE, 1, (drop("b"), touch("c", "a"), touch("e", "d"))),
                         ("course", ("c", "b", "a", "e", "d")))

    def test_no_events(self):
        for many in (1, 2, 24):
            self.assertEqual(gone_by(row_of(many), 0, ()), ("course", row_of(many)))

    def test_all_drop_out(self):
        start = row_of(24)
        self.assertEqual(gone_by(start, 0, tuple(drop(boat) for boat in start)), ("course", start))
        self.assertEqual(gone_by(start, 0, tuple(drop(boat) for boat in start + start[:1])), ("stuck", 24))

    def test_all_short_tuples_of_events(self):
        for many, most in ((1, 3), (2, 4), (3, 3)):
            start = row_of(many)
            events = all_events(start + ("z",))
            for length in range(most + 1):
                for told in itertools.product(events, repeat=length):
                    for reach in (0, 1):
                        self.assertEqual(gone_by(start, reach, told), plainly_gone(start, reach, told))

    def test_walks_through_longer_starts(self):
        chance = random.Random(2)
        for _ in range(2000):
            start = list(row_of(chance.randint(4, 9)))
            chance.shuffle(start)
            start = tuple(start)
            reach = chance.randint(0, 7)
            events = []
            for _ in range(12):
                x, y = chance.sample(start, 2)
                fresh = drop(x) if chance.random() < 0.4 else touch(x, y)
                # Mostly what can be, so that the walks grow long.
                if plainly_gone(start, reach, (*events, fresh))[0] == "course" or chance.random() < 0.03:
                    events.append(fresh)
            events = tuple(events)
            told = gone_by(start, reach, events)
            self.assertTrue(is_plain(told))
            self.assertEqual(told, plainly_gone(start, reach, events))
            self.assertEqual(gone_by(start, reach, events), told)


class RowsBehind(unittest.TestCase):
    def test_every_order_that_is_a_course(self):
        for many in range(1, 6):
            start = row_of(many)
            for reach in range(many):
                for sheet, row in sound_sheets(start, reach).items():
                    self.assertEqual(row_behind(start, sheet), row)
                    courses = 0
                    for events in itertools.permutations(sheet):
                        told = gone_by(start, reach, events)
                        if told[0] == "course":
                            courses += 1
                            self.assertEqual(told, ("course", row))
                    self.assertGreater(courses, 0)

    def test_by_hand(self):
        self.assertEqual(row_behind(ABCDE, ()), ABCDE)
        self.assertEqual(row_behind(ABCDE, (drop("a"), drop("e"))), ABCDE)
        self.assertEqual(row_behind(ABCDE, (drop("e"), touch("c", "b"), touch("d", "a"))), ("d", "c", "b", "a", "e"))
        self.assertEqual(row_behind(("e", "b", "a"), (touch("b", "e"),)), ("b", "e", "a"))
        self.assertTrue(is_plain(row_behind(ABCDE, (touch("b", "a"),))))


class Orders(unittest.TestCase):
    def check(self, start, reach, sheet, sound):
        told = order_of(start, reach, sheet)
        self.assertTrue(is_plain(told))
        self.assertEqual(len(told), 2)
        if sound:
            self.assertEqual(told[0], "course", (start, reach, sheet))
            self.assertEqual(tuple(sorted(told[1])), sheet)
            self.assertEqual(gone_by(start, reach, told[1]), ("course", row_behind(start, sheet)))
            self.assertEqual(plainly_gone(start, reach, told[1]), ("course", row_behind(start, sheet)))
        else:
            self.assertEqual(told[0], "unsound", (start, reach, sheet))
            self.assertTrue(plainly_reason(start, reach, sheet, told[1]), (start, reach, sheet, told))

    def test_all_sheets_of_small_starts(self):
        for many, strange in ((1, ("z",)), (2, ("z",)), (3, ("z",)), (4, ())):
            start = row_of(many)
            sounds = [sound_sheets(start, reach) for reach in range(many)]
            for sheet in all_sheets(start + strange):
                for reach, sound in enumerate(sounds):
                    self.check(start, reach, sheet, sheet in sound)

    def test_all_sheets_without_a_boat_twice(self):
        for start in (("e", "b", "a", "d", "c"), row_of(6), tuple(reversed(row_of(7)))):
            sheets = list(sheets_once(start))
            for reach in range(len(start) - 1):
                sound = sound_sheets(start, reach)
                for sheet in sheets:
                    self.check(start, reach, sheet, sheet in sound)

    def test_one_reason_alone(self):
        cases = (
            (("strange", "z"), 7, (drop("z"),)),
            (("strange", "z"), 7, (drop("b"), touch("z", "a"))),
            (("strange", "z"), 7, (drop("b"), touch("a", "z"))),
            (("twice", "b"), 7, (drop("b"), touch("b", "a"))),
            (("twice", "b"), 7, (touch("b", "a"), touch("c", "b"))),
            (("twice", "b"), 7, (drop("c"), touch("b", "a"), touch("d", "b"))),
            (("wrong", touch("a", "b")), 7, (touch("a", "b"),)),
            (("wrong", touch("a", "c")), 7, (drop("b"), touch("a", "c"))),
            (("far", touch("c", "a")), 0, (drop("b"), touch("c", "a"))),
            (("far", touch("e", "a")), 2, (drop("b"), drop("c"), drop("d"), touch("e", "a"))),
            (("stays", touch("c", "a"), "b"), 7, (touch("c", "a"),)),
            (("stays", touch("e", "a"), "c"), 7, (drop("b"), drop("d"), touch("e", "a"))),
        )
        for reason, reach, sheet in cases:
            self.assertEqual(order_of(ABCDE, reach, sheet), ("unsound", reason), sheet)

    def test_touches_that_cross(self):
        one, other = touch("c", "a"), touch("d", "b")
        told = order_of(ABCDE, 7, (one, other))
        self.assertIn(told, [("unsound", ("cross", one, other)), ("unsound", ("cross", other, one))])
        one, other = touch("d", "a"), touch("e", "c")
        told = order_of(ABCDE, 7, (drop("b"), one, other))
        self.assertIn(told, [("unsound", ("cross", one, other)), ("unsound", ("cross", other, one))])

    def test_just_reach_boats_between(self):
        for reach in range(8):
            start = row_of(reach + 3)
            sheet = sheet_of(tuple(drop(boat) for boat in start[1:-1]) + (touch(start[-1], start[0]),))
            self.check(start, reach + 1, sheet, True)
            self.check(start, reach, sheet, False)
            self.assertEqual(order_of(start, reach, sheet), ("unsound", ("far", touch(start[-1], start[0]))))

    def test_long_starts_nested_deep(self):
        # Names that rise against the order in which the touches must go, and with it.
        for start in (row_of(24), tuple(reversed(row_of(24)))):
            for first in (0, 7, 16):
                touches = tuple(touch(start[first + 7 - at], start[first + at]) for at in range(4))
                self.check(start, 6, tuple(sorted(touches)), True)
                self.check(start, 5, tuple(sorted(touches)), False)

    def test_no_events(self):
        for many in (1, 24):
            self.assertEqual(order_of(row_of(many), 0, ()), ("course", ()))

    def test_asked_again(self):
        sheet = (drop("d"), touch("c", "b"), touch("e", "a"))
        for reach in range(8):
            self.assertEqual(order_of(ABCDE, reach, sheet), order_of(ABCDE, reach, sheet))
        self.assertEqual(sheet, (drop("d"), touch("c", "b"), touch("e", "a")))
        self.assertEqual(ABCDE, tuple("abcde"))


if __name__ == "__main__":
    unittest.main()
