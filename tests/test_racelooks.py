"""A look at reasons: point 8."""

import copy
import unittest

from touchboats.racelooks import shows_unsound
from touchboats.races import order_of
from tests.helpers import (
    all_events, all_sheets, odd_things, plainly_reason, row_of, sheets_once, sound_sheets, spoiled,
)

START = ("a", "b", "c", "d", "e", "f")


def drop(x):
    return ("drop", x)


def touch(x, y):
    return ("touch", x, y)


class Looks(unittest.TestCase):
    def taken(self, reach, sheet, *reasons):
        for reason in reasons:
            self.assertIs(shows_unsound(START, reach, sheet, reason), True, (reach, sheet, reason))

    def left(self, reach, sheet, *reasons):
        for reason in reasons:
            self.assertIs(shows_unsound(START, reach, sheet, reason), False, (reach, sheet, reason))

    def test_strange(self):
        sheet = (drop("y"), drop("z"), touch("a", "x"), touch("w", "b"))
        self.taken(7, sheet, *[("strange", x) for x in "wxyz"])
        # Of the start; in no event; neither.
        self.left(7, sheet, ("strange", "a"), ("strange", "b"), ("strange", "c"), ("strange", "v"), ("strange", ""))
        self.left(7, sheet, ("strange", "drop"), ("strange", "touch"), ("strange", drop("z")), ("strange", "z", "z"))
        self.left(7, (), ("strange", "z"))

    def test_twice(self):
        sheet = (drop("a"), drop("c"), touch("b", "a"), touch("d", "b"), touch("z", "y"), touch("z", "x"))
        sheet = tuple(sorted(sheet))
        self.taken(7, sheet, ("twice", "a"), ("twice", "b"), ("twice", "z"))
        self.left(7, sheet, ("twice", "c"), ("twice", "d"), ("twice", "e"), ("twice", "y"), ("twice", "w"))
        self.left(7, sheet, ("twice", "touch"), ("twice", "drop"), ("twice", "a", "a"), ("twice", drop("a")))

    def test_wrong(self):
        sheet = (touch("a", "b"), touch("a", "d"), touch("c", "b"), touch("y", "z"), touch("z", "a"))
        self.taken(7, sheet, ("wrong", touch("a", "b")), ("wrong", touch("a", "d")))
        # Ahead; turned about; of the start but not of the sheet; not of the start.
        self.left(7, sheet, ("wrong", touch("c", "b")), ("wrong", touch("b", "a")), ("wrong", touch("b", "c")))
        self.left(7, sheet, ("wrong", touch("e", "f")), ("wrong", touch("y", "z")), ("wrong", touch("z", "a")))
        self.left(7, (drop("a"),), ("wrong", drop("a")), ("wrong", "a"))

    def test_far(self):
        for e in (touch("e", "a"), touch("a", "e")):
            turned = touch(e[2], e[1])
            for reach in range(8):
                self.assertIs(shows_unsound(START, reach, (e,), ("far", e)), reach < 3, (e, reach))
                self.left(reach, (e,), ("far", turned))
                self.left(reach, (), ("far", e))
        for e in (touch("z", "a"), touch("f", "z"), touch("y", "z")):
            self.left(0, (e,), ("far", e))
        self.left(0, (touch("b", "a"),), ("far", touch("b", "a")))
        self.left(0, (touch("e", "a"),), ("far", touch("d", "a")), ("far", touch("e", "a"), "b"), ("far", "e"))

    def test_stays(self):
        for e in (touch("e", "a"), touch("a", "e")):
            sheet = (drop("c"), e)
            self.taken(7, sheet, ("stays", e, "b"), ("stays", e, "d"))
            # In an event; the two themselves; beside them; not of the start.
            self.left(7, sheet, *[("stays", e, x) for x in "caefz"])
            self.left(7, sheet, ("stays", touch(e[2], e[1]), "b"), ("stays", e), ("stays", "b", e), ("stays", e, e))
            self.left(7, (drop("c"),), ("stays", e, "b"))
            sheet = tuple(sorted((e, touch("c", "z"), touch("d", "b"))))
            self.left(7, sheet, *[("stays", e, x) for x in "bcdz"])
        for e in (touch("z", "a"), touch("a", "z"), touch("y", "z")):
            self.left(7, (e,), *[("stays", e, x) for x in "abz"])

    def test_cross(self):
        for e in (touch("c", "a"), touch("a", "c")):
            for g in (touch("d", "b"), touch("b", "d")):
                sheet = tuple(sorted((e, g)))
                self.taken(7, sheet, ("cross", e, g), ("cross", g, e))
                self.left(7, sheet, ("cross", e, e), ("cross", g, g), ("cross", touch(e[2], e[1]), g))
                self.left(7, sheet, ("cross", e, touch(g[2], g[1])), ("cross", e), ("cross", e, g, g))
                self.left(7, (e,), ("cross", e, g), ("cross", g, e))

    def test_no_cross(self):
        for e, g in (
            (touch("c", "a"), touch("e", "c")),
            (touch("c", "a"), touch("c", "b")),
            (touch("c", "a"), touch("d", "a")),
            (touch("d", "a"), touch("c", "a")),
            (touch("c", "a"), touch("b", "a")),
            (touch("d", "a"), touch("d", "b")),
            (touch("c", "a"), touch("a", "c")),
            (touch("d", "a"), touch("c", "b")),
            (touch("a", "d"), touch("b", "c")),
            (touch("b", "a"), touch("d", "c")),
            (touch("c", "a"), touch("f", "d")),
            (touch("c", "a"), touch("z", "b")),
            (touch("c", "a"), touch("b", "z")),
            (touch("c", "a"), touch("y", "z")),
        ):
            sheet = tuple(sorted((e, g)))
            self.left(7, sheet, ("cross", e, g), ("cross", g, e))

    def test_a_drop_is_no_touch(self):
        sheet = (drop("a"), drop("b"), touch("e", "c"))
        for word in ("wrong", "far"):
            self.left(0, sheet, (word, drop("a")))
        self.left(0, sheet, ("stays", drop("a"), "d"), ("cross", touch("e", "c"), drop("a")), ("cross", drop("a"), drop("b")))


class AgainstTheWords(unittest.TestCase):
    def check(self, start, reach, sheet, reason):
        told = shows_unsound(start, reach, sheet, reason)
        self.assertIs(told, plainly_reason(start, reach, sheet, reason), (start, reach, sheet, reason))
        return told

    def reasons(self, boats):
        events = all_events(boats)
        found = [(word, part) for word in ("strange", "twice") for part in boats]
        found += [(word, part) for word in ("wrong", "far") for part in events]
        found += [("stays", e, x) for e in events for x in boats]
        found += [("cross", e, g) for e in events for g in events]
        return found

    def test_all_sheets_and_reasons_of_small_starts(self):
        for start, boats in ((("a",), ("a", "z")), (("a", "b"), ("a", "b")), (("b", "a"), ("a", "b", "z")),
                             (("c", "a", "b"), ("a", "b", "c"))):
            reasons = self.reasons(boats)
            for reach in (0, 1):
                sound = sound_sheets(start, reach)
                for sheet in all_sheets(boats):
                    taken = [reason for reason in reasons if self.check(start, reach, sheet, reason)]
                    self.assertEqual(taken == [], sheet in sound)

    def test_sheets_without_a_boat_twice(self):
        for start, boats in ((("d", "b", "a", "c"), ("a", "b", "c", "d")), (("b", "c", "a"), ("a", "b", "c", "z"))):
            reasons = self.reasons(boats)
            for reach in (0, 1, 2):
                sound = sound_sheets(start, reach)
                for sheet in sheets_once(boats):
                    taken = [reason for reason in reasons if self.check(start, reach, sheet, reason)]
                    self.assertEqual(taken == [], sheet in sound)

    def test_what_order_of_tells_is_taken(self):
        for start in (("a", "b", "c"), ("d", "b", "a", "c"), row_of(6)):
            sheets = all_sheets(start) if len(start) == 3 else sheets_once(start)
            for sheet in sheets:
                for reach in range(len(start) - 1):
                    word, told = order_of(start, reach, sheet)
                    if word == "unsound":
                        self.assertIs(shows_unsound(start, reach, sheet, told), True, (start, reach, sheet, told))


class OfAnything(unittest.TestCase):
    SHEETS = (
        (),
        (drop("b"), touch("c", "a"), touch("d", "b"), touch("z", "a")),
        (touch("c", "a"),),
    )
    REASONS = (("strange", "z"), ("twice", "b"), ("wrong", touch("c", "a")), ("far", touch("c", "a")),
               ("stays", touch("c", "a"), "b"), ("cross", touch("c", "a"), touch("d", "b")))

    def test_things_of_any_kind(self):
        things = odd_things()
        for sheet in self.SHEETS:
            for thing in things:
                self.assertIs(shows_unsound(START, 0, sheet, thing), False)

    def test_reasons_spoiled_at_one_place(self):
        for sheet in self.SHEETS:
            for reason in self.REASONS:
                for thing in spoiled(reason):
                    told = shows_unsound(START, 0, sheet, thing)
                    self.assertIs(told, plainly_reason(START, 0, sheet, thing))

    def test_one_part_more_or_fewer_and_lists(self):
        sheet = self.SHEETS[1]
        taken = [reason for reason in self.REASONS if shows_unsound(START, 0, sheet, reason)]
        self.assertEqual([reason[0] for reason in taken], ["strange", "twice", "far", "cross"])
        for reason in taken:
            for thing in (reason[:-1], reason + reason[-1:], reason + (None,), list(reason), (reason,), reason[1:],
                          tuple(list(part) if isinstance(part, tuple) else [part] for part in reason)):
                self.assertIs(shows_unsound(START, 0, sheet, thing), False, thing)

    def test_nothing_handed_in_is_changed(self):
        for thing in (["far", touch("c", "a")], ("far", ["touch", "c", "a"]), {"far": ["c"]}):
            before = copy.deepcopy(thing)
            self.assertIs(shows_unsound(START, 0, self.SHEETS[1], thing), False)
            self.assertEqual(thing, before)


if __name__ == "__main__":
    unittest.main()
