"""A look at why no day leads from one morning to another: point 14."""

import copy
import itertools
import random
import unittest

from touchboats.telllooks import shows_untold
from touchboats.tellings import told_by
from tests.helpers import drawn_day, drawn_row, odd_things, plainly_day, plainly_untold, spoiled


def touch(x, y):
    return ("touch", x, y)


def untold(k, *reason):
    return ("untold", k, reason)


class ByHand(unittest.TestCase):
    ROW = ("a", "b", "c", "d", "e", "f", "g", "h")

    def looks(self, meeting, other, taken, left):
        for thing in taken:
            self.assertIs(shows_untold(meeting, self.ROW, other, thing), True, thing)
        for thing in left:
            self.assertIs(shows_untold(meeting, self.ROW, other, thing), False, thing)

    def test_from(self):
        # Race 2 of g, h; race 1 of d, e, f, g would need c and b.
        other = ("a", "d", "e", "f", "c", "b", "g", "h")
        self.looks((3, 0), other, (untold(1, "from", "b"), untold(1, "from", "c")), (
            # In the start; beyond it, but wanted nowhere there; at its first place.
            untold(1, "from", "d"), untold(1, "from", "a"), untold(1, "from", "f"), untold(1, "from", "h"),
            untold(0, "from", "b"), untold(2, "from", "b"), untold(3, "from", "b"), untold(-1, "from", "b"),
            # Of later words.
            untold(1, "round", "e"), untold(1, "round", "d"), untold(1, "round", "b"),
            untold(1, "far", touch("f", "d")),
        ))

    def test_no_boat_comes_from_elsewhere_to_race_0(self):
        self.looks((8, 0), ("c", "b", "a", "d", "e", "f", "g", "h"), (untold(0, "far", touch("c", "a")),),
                   [untold(0, "from", x) for x in self.ROW])

    def test_the_first_place_is_not_asked(self):
        # Race 1 has d, e, f, g, and c stands on its span, at its first place: d was head and touched on.
        other = ("a", "b", "d", "c", "e", "f", "g", "h")
        self.looks((3, 0), other, (), [untold(k, "from", x) for x in self.ROW for k in range(3)])

    def test_round(self):
        other = ("a", "c", "d", "b", "g", "f", "e", "h")
        self.looks((8, 0), other, [untold(0, "round", x) for x in "bcd"],
                   [untold(0, "round", x) for x in "aefghz"]
                   + [untold(0, "far", touch("g", "e")), untold(1, "round", "b")])

    def test_round_above(self):
        # Race 1 of d, e, f, g: behind its first place d, e, g; so f is left as its head.
        other = ("a", "b", "f", "c", "d", "e", "g", "h")
        self.looks((3, 1), other, [untold(1, "round", x) for x in "def"],
                   [untold(1, "round", x) for x in "abcgh"] + [untold(0, "round", x) for x in "abcdefgh"]
                   + [untold(1, "far", touch("f", "d")), untold(2, "round", "d")])

    def test_far(self):
        other = ("e", "b", "d", "c", "a", "f", "h", "g")
        e = touch("e", "a")
        self.looks((8, 2), other, (untold(0, "far", e),), (
            untold(0, "far", touch("a", "e")), untold(0, "far", touch("d", "c")), untold(0, "far", touch("h", "a")),
            untold(0, "far", e, e), untold(0, "far"), untold(1, "far", e), untold(0, "cross", e, touch("d", "c")),
            untold(0, "far", touch("f", "a")), untold(0, "far", touch("z", "a")), untold(0, "far", "e"),
        ))
        self.looks((8, 3), other, (), (untold(0, "far", e),))

    def test_far_above(self):
        # f is head of race 1, g of race 2.
        other = ("a", "b", "c", "f", "e", "d", "h", "g")
        e = touch("f", "d")
        self.looks((3, 0), other, (untold(1, "far", e),), (
            untold(1, "far", touch("d", "f")), untold(0, "far", e), untold(2, "far", touch("h", "g")),
            untold(1, "far", touch("h", "g")),
        ))
        # Then it goes on up.
        self.looks((3, 0), ("a", "b", "f", "c", "e", "d", "h", "g"), (untold(1, "far", e),), (untold(0, "far", e),))
        self.looks((3, 1), other, (), (untold(1, "far", e),))

    def test_cross(self):
        other = ("c", "d", "a", "b", "h", "g", "f", "e")
        e, g = touch("c", "a"), touch("d", "b")
        self.looks((8, 7), other, (untold(0, "cross", e, g), untold(0, "cross", g, e)), (
            untold(0, "cross", e, e), untold(0, "cross", touch("a", "c"), g), untold(0, "cross", e, touch("b", "d")),
            untold(0, "cross", e, touch("h", "e")), untold(0, "cross", touch("h", "e"), touch("g", "f")),
            untold(0, "cross", e), untold(0, "cross", e, g, g), untold(0, "far", e), untold(1, "cross", e, g),
            untold(0, "cross", touch("d", "a"), touch("c", "b")), untold(0, "cross", touch("c", "a"), touch("e", "b")),
        ))
        # Where some are far too, either word may stand.
        self.looks((8, 0), other, (untold(0, "cross", e, g), untold(0, "far", e), untold(0, "far", touch("h", "e"))),
                   (untold(0, "far", touch("g", "f")),))

    def test_cross_above(self):
        e, g = touch("g", "e"), touch("h", "f")
        crosses = untold(1, "cross", e, g), untold(1, "cross", g, e)
        for other in (("a", "b", "c", "d", "g", "h", "e", "f"), ("a", "b", "c", "g", "d", "h", "e", "f")):
            left = (untold(0, "cross", e, g), untold(1, "far", e), untold(1, "cross", e, e))
            self.looks((4, 1), other, crosses, left)

    def test_a_race_above_that_cannot_be_told_leaves_the_others_alone(self):
        other = ("c", "b", "a", "d", "g", "f", "e", "h")
        self.looks((4, 0), other, (untold(1, "far", touch("g", "e")),), (untold(0, "far", touch("c", "a")),))

    def test_where_a_day_leads_there(self):
        for thing in (untold(0, "round", "a"), untold(0, "far", touch("b", "a")), untold(1, "from", "a"),
                      untold(2, "from", "a"), ("told", ()), ("untold", 0, ())):
            self.looks((3, 0), self.ROW, (), (thing,))
            self.looks((3, 0), ("b", "a") + self.ROW[2:], (), (thing,))


class AgainstTheWords(unittest.TestCase):
    def candidates(self, row, races):
        touches = [touch(x, y) for x, y in itertools.permutations(row, 2)]
        reasons = [(word, x) for word in ("from", "round", "far") for x in row]
        reasons += [(word, e) for word in ("far", "cross", "round") for e in touches]
        reasons += [("cross", e, g) for e in touches for g in touches]
        return [("untold", k, reason) for k in range(-1, races + 1) for reason in reasons]

    def check_all(self, meeting, row, others):
        things = self.candidates(row, -(-len(row) // meeting[0]))
        for other in others:
            taken = []
            for thing in things:
                told = shows_untold(meeting, row, other, thing)
                self.assertIs(told, plainly_untold(meeting, row, other, thing), (meeting, row, other, thing))
                if told:
                    taken.append(thing)
            # All of them are of one race and, but for far and cross, of one word.
            self.assertEqual(len(taken) > 0, told_by(meeting, row, other)[0] == "untold")
            words = {(thing[1], thing[2][0].replace("cross", "far")) for thing in taken}
            self.assertLessEqual(len(words), 1)

    def test_all_reasons_of_small_rows(self):
        for n in range(1, 4):
            row = ("c", "a", "b")[:n]
            for size in range(1, 4):
                for reach in range(2):
                    self.check_all((size, reach), row, itertools.permutations(row))

    def test_all_reasons_of_four_boats(self):
        row = ("d", "b", "a", "c")
        for meeting in ((1, 0), (2, 0), (3, 0), (3, 1), (4, 0), (4, 1), (8, 2)):
            self.check_all(meeting, row, itertools.permutations(row))

    def test_what_told_by_tells_is_taken(self):
        chance = random.Random(15)
        words = set()
        for _ in range(600):
            n = chance.randint(4, 24)
            meeting = (chance.randint(1, 8), chance.randint(0, 7))
            row = drawn_row(chance, n)
            other = list(plainly_day(meeting, row, drawn_day(chance, meeting, row))[0])
            for _ in range(2):
                one = chance.randrange(n)
                two = max(one - chance.randint(1, 3), 0)
                other[one], other[two] = other[two], other[one]
            told = told_by(meeting, row, tuple(other))
            self.assertIs(shows_untold(meeting, row, tuple(other), told), told[0] == "untold")
            if told[0] == "untold":
                words.add((told[2][0], told[1] > 0))
                for k in range(25):
                    self.assertIs(shows_untold(meeting, row, tuple(other), ("untold", k, told[2])), k == told[1])
        self.assertEqual(len(words), 7)


class OfAnything(unittest.TestCase):
    CASES = (
        ((3, 0), ("a", "b", "c", "d", "e", "f", "g"), ("a", "d", "e", "f", "c", "b", "g")),
        ((1, 7), ("a", "b"), ("b", "a")),
        ((1, 0), ("a", "b", "c"), ("b", "c", "a")),
        ((4, 1), ("a", "b", "c", "d"), ("b", "c", "a", "d")),
        ((3, 1), ("a", "b", "c", "d", "e", "f"), ("a", "b", "f", "c", "d", "e")),
        ((4, 0), ("a", "b", "c", "d"), ("c", "b", "a", "d")),
        ((4, 1), ("z", "y", "x", "w", "a", "b", "c", "d"), ("z", "y", "x", "c", "w", "d", "a", "b")),
        ((4, 7), ("a", "b", "c", "d"), ("c", "d", "a", "b")),
    )

    def test_things_of_any_kind(self):
        things = odd_things()
        for case in self.CASES:
            for thing in things:
                self.assertIs(shows_untold(*case, thing), False)
                self.assertIs(shows_untold(*case, ("untold", 0, thing)), False)
                for reason in (("round", "a"), ("from", "a")):
                    whole = ("untold", thing, reason)
                    self.assertIs(shows_untold(*case, whole), plainly_untold(*case, whole))

    def test_told_ones_with_a_part_otherwise(self):
        taken = 0
        for case in self.CASES:
            told = told_by(*case)
            if told[0] == "told":
                told = ("untold", 0, ("round", "a"))
            for thing in spoiled(told):
                found = shows_untold(*case, thing)
                self.assertIs(found, plainly_untold(*case, thing))
                self.assertIs(shows_untold(*case, thing), found)
                taken += found
        self.assertGreater(taken, 0)

    def test_a_truth_is_no_number(self):
        row, other = ("a", "b", "c", "d"), ("c", "b", "a", "d")
        e = ("far", touch("c", "a"))
        self.assertIs(shows_untold((4, 0), row, other, ("untold", 0, e)), True)
        self.assertIs(shows_untold((4, 0), row, other, ("untold", False, e)), False)
        row, other = ("a", "b", "c"), ("b", "c", "a")
        self.assertIs(shows_untold((1, 0), row, other, ("untold", 1, ("from", "a"))), True)
        self.assertIs(shows_untold((1, 0), row, other, ("untold", True, ("from", "a"))), False)

    def test_nothing_handed_in_is_changed(self):
        case = self.CASES[5]
        for thing in (["untold", 0, ("far", touch("c", "a"))], ("untold", 0, ["far", touch("c", "a")]),
                      ("untold", 0, ("far", ["touch", "c", "a"])), {"untold": 0}):
            before = copy.deepcopy(thing)
            self.assertIs(shows_untold(*case, thing), False)
            self.assertEqual(thing, before)


if __name__ == "__main__":
    unittest.main()
