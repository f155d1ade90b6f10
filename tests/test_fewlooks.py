"""A look at the fewest touches: the end of point 20."""

import copy
import itertools
import random
import unittest

from touchboats.fewest import apart_by, fewest, rounds_of
from touchboats.fewlooks import shows_fewest
from tests.helpers import (
    drawn_row, odd_things, plainly_exchanged, plainly_few, plainly_fewest, plainly_papers, plainly_places, row_of,
    spoiled,
)

MEETINGS = [(size, reach) for size in range(1, 9) for reach in range(8)]


class Case(unittest.TestCase):
    def check(self, meeting, row, other, thing):
        told = shows_fewest(meeting, row, other, thing)
        self.assertIs(told, plainly_fewest(meeting, row, other, thing), (meeting, row, other))
        return told


def table_to(meeting, row, other):
    """How few touches lead from each row to other."""
    return tuple(plainly_few(meeting, one, other) for one in sorted(itertools.permutations(row)))


def table_from(meeting, row, other):
    """What is left of many where so many touches are gone."""
    many = plainly_few(meeting, row, other)
    rows = sorted(itertools.permutations(row))
    return tuple(max(0, many - plainly_few(meeting, row, one)) for one in rows)


def papers_of(meeting, row, other):
    """All sorts of paper that may stand."""
    papers = [(sort,) for sort in plainly_papers(meeting, len(row)) if sort != "table"]
    if len(row) <= 5:
        papers += [("table", table_to(meeting, row, other)), ("table", table_from(meeting, row, other))]
    return papers


def drawn_touches(chance, meeting, row, other):
    """Fewest touches of few boats, whichever lead nearer."""
    stands, touches = row, ()
    while stands != other:
        behind = [(plainly_exchanged(stands, p, q), (stands[q], stands[p]))
                  for p, q in plainly_places(meeting, len(row))]
        far = plainly_few(meeting, stands, other)
        stands, touch = chance.choice([way for way in behind if plainly_few(meeting, way[0], other) < far])
        touches += (touch,)
    return touches


class ByHand(Case):
    ROW, OTHER = ("a", "b", "c"), ("c", "b", "a")
    THREE = (("b", "a"), ("c", "a"), ("c", "b"))
    ONE = (("c", "a"),)
    TABLE = (3, 2, 2, 1, 1, 0)

    def looks(self, taken, meeting, *things):
        for thing in things:
            self.assertIs(self.check(meeting, self.ROW, self.OTHER, thing), taken, thing)

    def test_by_reach_0(self):
        self.looks(True, (3, 0), (3, self.THREE, ("pairs",)), (3, self.THREE, ("table", self.TABLE)))
        self.looks(True, (1, 0), (3, self.THREE, ("pairs",)), (3, (("c", "b"), ("c", "a"), ("b", "a")), ("pairs",)))
        # Three boats are more than reach + 2, and in one race by a greater one.
        self.looks(False, (3, 0), (3, self.THREE, ("rounds",)), (1, self.ONE, ("rounds",)), (1, self.ONE, ("pairs",)))

    def test_in_one_race(self):
        self.looks(True, (3, 1), (1, self.ONE, ("rounds",)), (1, self.ONE, ("table", (1, 1, 1, 1, 1, 0))))
        self.looks(False, (3, 1), (3, self.THREE, ("rounds",)), (3, self.THREE, ("pairs",)))
        self.looks(False, (3, 1), (1, self.ONE, ("rounds", "rounds")), (1, self.ONE, ("rounds", (), ())))
        self.looks(False, (3, 1), (3, self.THREE, ("table", self.TABLE)), (1, self.ONE, ("pairs",)))

    def test_in_two_races(self):
        # By size 2 all three are on the span of race 0, but more than a division has.
        self.looks(True, (2, 1), (1, self.ONE, ("table", (1, 1, 1, 1, 1, 0))))
        self.looks(False, (2, 1), (1, self.ONE, ("rounds",)), (1, self.ONE, ("pairs",)))
        self.looks(True, (1, 1), (3, self.THREE, ("table", self.TABLE)))
        self.looks(False, (1, 1), (1, self.ONE, ("table", (1, 1, 1, 1, 1, 0))), (3, self.THREE, ("pairs",)))

    def test_touches_that_are_none(self):
        for touches in (
            (("a", "b"), ("c", "a"), ("c", "b")), (("b", "a"), ("c", "b"), ("c", "a")),
            (("b", "a"), ("c", "a"), ("b", "c")), (("b", "b"), ("c", "a"), ("c", "b")),
            (("b", "a"), ("c", "a"), ("c", "d")), (("b", "a"), ("c", "a"), ("c",)),
            (("b", "a"), ("c", "a"), ("c", "b", "a")), (("b", "a"), ("c", "a"), ["c", "b"]),
            (("b", "a"), ("c", "a"), "cb"), (("b", "a"), ("c", "a"), ("touch", "c", "b")), list(self.THREE),
            (("b", "a"), ("c", "a"), ("b", "a")), ((), (), ()), (0, 1, 2),
        ):
            self.looks(False, (3, 0), (3, touches, ("pairs",)), (3, touches, ("table", self.TABLE)))

    def test_touches_more_or_fewer(self):
        more = self.THREE + (("b", "c"), ("c", "b"))
        back = (("b", "a"), ("a", "b")) + self.THREE
        for touches in (more, back):
            for many in (3, 5):
                self.looks(False, (3, 0), (many, touches, ("pairs",)), (many, touches, ("table", self.TABLE)),
                           (many, touches, ("table", (5, 4, 4, 3, 3, 0))), (many, touches, ("table", (5, 4, 3, 2, 1, 0))))
        for k in range(3):
            fewer = self.THREE[:k] + self.THREE[k + 1:]
            self.looks(False, (3, 0), (2, fewer, ("pairs",)), (3, fewer, ("pairs",)))
        self.looks(False, (3, 0), (0, (), ("pairs",)), (3, (), ("pairs",)))

    def test_another_count(self):
        for many in (0, 1, 2, 4, 6, -3, True, None, "3", b"3", (3,), [3], 10 ** 30):
            self.looks(False, (3, 0), (many, self.THREE, ("pairs",)), (many, self.THREE, ("table", self.TABLE)))
        self.assertTrue(self.check((2, 0), ("a", "b"), ("b", "a"), (1, (("b", "a"),), ("pairs",))))
        self.assertFalse(self.check((2, 0), ("a", "b"), ("b", "a"), (True, (("b", "a"),), ("pairs",))))
        self.assertTrue(self.check((2, 0), ("a", "b"), ("a", "b"), (0, (), ("pairs",))))
        self.assertFalse(self.check((2, 0), ("a", "b"), ("a", "b"), (False, (), ("pairs",))))

    def test_papers_of_another_form(self):
        for paper in (
            (), "pairs", ["pairs"], ("pairs", ()), ("pairs", self.TABLE), ("rounds", self.TABLE), ("table",),
            ("table", ()), ("table", list(self.TABLE)), ("table", self.TABLE, ()), ("Table", self.TABLE), self.TABLE,
            (self.TABLE,), (("pairs",),), None, ("pairs", "pairs"), ("table",) + self.TABLE,
            ("pairs", (), ()), ("pairs", "pairs", "pairs"), ("pairs",) * 4,
        ):
            self.looks(False, (3, 0), (3, self.THREE, paper))
        self.looks(False, (3, 0), (3, self.THREE), (3, self.THREE, ("pairs",), ()), (self.THREE, 3, ("pairs",)),
                   [3, self.THREE, ("pairs",)])


class Tables(Case):
    def test_all_tables_of_three_boats(self):
        for meeting, most in (((3, 0), 4), ((1, 1), 4), ((2, 1), 3), ((3, 1), 3)):
            row, others = ("b", "a", "c"), [("b", "c", "a"), ("c", "a", "b"), ("b", "a", "c")]
            for other in others:
                many, touches, paper = fewest(meeting, row, other)
                taken = sum(self.check(meeting, row, other, (many, touches, ("table", numbers)))
                            for numbers in itertools.product(range(most), repeat=6))
                self.assertGreater(taken, 0)

    def test_numbers_otherwise(self):
        chance = random.Random(70)
        counts = {True: 0, False: 0}
        for meeting in MEETINGS:
            for n in (1, 2, 3, 4, 5):
                row, other = drawn_row(chance, n), drawn_row(chance, n)
                many, touches, paper = fewest(meeting, row, other)
                for make in (table_to, table_from):
                    numbers = make(meeting, row, other)
                    self.assertTrue(self.check(meeting, row, other, (many, touches, ("table", numbers))))
                    for _ in range(6):
                        at = chance.randrange(len(numbers))
                        number = numbers[at] + chance.choice((-2, -1, 1, 2, len(numbers)))
                        fresh = numbers[:at] + (number,) + numbers[at + 1:]
                        counts[self.check(meeting, row, other, (many, touches, ("table", fresh)))] += 1
                    at = chance.randrange(len(numbers))
                    for fresh in (numbers[:at] + numbers[at + 1:], numbers[:at] + (numbers[at],) + numbers[at:],
                                  tuple(number + 1 for number in numbers), numbers[::-1]):
                        self.check(meeting, row, other, (many, touches, ("table", fresh)))
        self.assertGreater(min(counts.values()), 100)

    def test_truths_in_place_of_numbers(self):
        for meeting in ((1, 1), (3, 1), (4, 1)):
            row = row_of(4)
            other = (row[1], row[0], row[2], row[3])
            many, touches, paper = fewest(meeting, row, other)
            numbers = table_to(meeting, row, other)
            for at, number in enumerate(numbers):
                if number < 2:
                    fresh = numbers[:at] + (bool(number),) + numbers[at + 1:]
                    self.assertEqual(fresh, numbers)
                    self.assertFalse(self.check(meeting, row, other, (many, touches, ("table", fresh))))

    def test_numbers_that_hold_at_the_ends_alone_or_nowhere(self):
        for numbers in ((0,) * 6, (3,) * 6, (3, 0, 0, 0, 0, 0), (3, 3, 3, 3, 3, 0), (3, 2, 2, 1, 1, 1), (2, 2, 2, 1, 1, 0)):
            thing = (3, ByHand.THREE, ("table", numbers))
            self.assertFalse(self.check((3, 0), ByHand.ROW, ByHand.OTHER, thing))


class AgainstTheWords(Case):
    def test_what_fewest_tells_is_taken(self):
        chance = random.Random(71)
        for meeting in MEETINGS:
            for n in range(1, 25):
                if plainly_papers(meeting, n):
                    row, other = drawn_row(chance, n), drawn_row(chance, n)
                    told = fewest(meeting, row, other)
                    self.assertTrue(self.check(meeting, row, other, told))
                    # For another row it leads elsewhere.
                    if n > 1:
                        fresh = plainly_exchanged(other, 0, n - 1)
                        self.assertFalse(self.check(meeting, row, fresh, told))
                        self.assertFalse(self.check(meeting, fresh, other, told) and fresh != row)

    def test_each_paper_that_may_stand_and_that_may_not(self):
        chance = random.Random(72)
        counts = {True: 0, False: 0}
        for meeting in MEETINGS:
            for n in (1, 2, 3, 4, 5, 6, 7, 8, 9):
                sorts = plainly_papers(meeting, n)
                row, other = drawn_row(chance, n), drawn_row(chance, n)
                if not sorts:
                    # Of these no paper may stand, whatever touches lead there.
                    touches = fewest((meeting[0], 0), row, other)[1]
                    for paper in (("pairs",), ("rounds",), ("table", ()), ("table", (0,) * 720)):
                        self.assertFalse(self.check(meeting, row, other, (len(touches), touches, paper)))
                    continue
                many, touches, paper = fewest(meeting, row, other)
                for fresh in papers_of(meeting, row, other):
                    self.assertTrue(self.check(meeting, row, other, (many, touches, fresh)), (meeting, row, fresh))
                for sort in ("pairs", "rounds"):
                    taken = self.check(meeting, row, other, (many, touches, (sort,)))
                    self.assertIs(taken, sort in sorts)
                    counts[taken] += 1
        self.assertGreater(min(counts.values()), 50)

    def test_a_count_that_is_right_by_chance(self):
        # Three boats of one round, and two pairs apart: by whatever meeting it is two touches.
        row, other = ("a", "b", "c"), ("b", "c", "a")
        self.assertEqual((apart_by(row, other), 3 - rounds_of(row, other)), (2, 2))
        for meeting in MEETINGS:
            for sort in ("pairs", "rounds"):
                taken = self.check(meeting, row, other, (2, (("b", "a"), ("c", "a")), (sort,)))
                self.assertIs(taken, sort in plainly_papers(meeting, 3))

    def test_tables_of_six_boats(self):
        row = row_of(6)
        other = plainly_exchanged(row, 0, 1)
        for meeting in ((3, 0), (6, 4), (3, 2)):
            numbers = table_to(meeting, row, other)
            self.assertFalse(self.check(meeting, row, other, (1, ((row[1], row[0]),), ("table", numbers))))
        # Of five it is one.
        row = row_of(5)
        other = plainly_exchanged(row, 0, 1)
        for meeting in ((3, 0), (6, 4), (3, 2)):
            numbers = table_to(meeting, row, other)
            self.assertTrue(self.check(meeting, row, other, (1, ((row[1], row[0]),), ("table", numbers))))

    def test_other_touches_as_few(self):
        chance = random.Random(73)
        unlike = 0
        for meeting in MEETINGS:
            for n in (3, 4, 5):
                row, other = drawn_row(chance, n), drawn_row(chance, n)
                many, touches, paper = fewest(meeting, row, other)
                for _ in range(4):
                    fresh = drawn_touches(chance, meeting, row, other)
                    unlike += fresh != touches
                    self.assertTrue(self.check(meeting, row, other, (many, fresh, paper)))
                    at = chance.randint(0, many)
                    p, q = chance.choice(plainly_places(meeting, n))
                    more = fresh[:at] + ((row[p], row[q]), (row[q], row[p])) + fresh[at:]
                    for parts in (fresh[:-1], fresh[1:], more, fresh[::-1], tuple(touch[::-1] for touch in fresh)):
                        self.check(meeting, row, other, (many, parts, paper))
                        self.check(meeting, row, other, (len(parts), parts, paper))
        self.assertGreater(unlike, 100)

    def test_all_touches_of_three_boats(self):
        pairs = list(itertools.permutations(("a", "b", "c"), 2))
        for meeting in ((1, 0), (1, 1), (2, 1), (3, 1)):
            for other in itertools.permutations(("a", "b", "c")):
                papers = [("pairs",), ("rounds",), ("table", table_to(meeting, ("a", "b", "c"), other))]
                taken = 0
                for many in range(4):
                    for touches in itertools.product(pairs, repeat=many):
                        for paper in papers:
                            taken += self.check(meeting, ("a", "b", "c"), other, (many, touches, paper))
                self.assertGreater(taken, 0)


class OfAnything(Case):
    CASES = (
        ((1, 0), ("a",), ("a",), ("pairs",)),
        ((2, 0), ("b", "a"), ("a", "b"), ("pairs",)),
        ((2, 0), ("a", "b"), ("b", "a"), ("rounds",)),
        ((1, 3), ("a", "b"), ("b", "a"), ("table", (1, 0))),
        ((3, 0), ("a", "b", "c"), ("b", "c", "a"), ("pairs",)),
        ((2, 1), ("a", "b", "c"), ("b", "c", "a"), ("table", (2, 1, 1, 0, 2, 1))),
    )

    def cases(self):
        for meeting, row, other, paper in self.CASES:
            many, touches, told = fewest(meeting, row, other)
            self.assertTrue(self.check(meeting, row, other, (many, touches, paper)))
            yield meeting, row, other, (many, touches, paper)

    def test_things_of_any_kind(self):
        things = odd_things()
        for meeting, row, other, told in self.cases():
            for thing in things:
                self.check(meeting, row, other, thing)
                for at in range(3):
                    self.check(meeting, row, other, told[:at] + (thing,) + told[at + 1:])
                many, touches, paper = told
                for parts in (touches + (thing,), (thing,) + touches, touches[:-1] + (thing,)):
                    self.check(meeting, row, other, (many, parts, paper))
                    self.check(meeting, row, other, (len(parts), parts, paper))
                self.check(meeting, row, other, (many, touches, (thing,)))
                self.check(meeting, row, other, (many, touches, ("table", thing)))

    def test_told_ones_with_a_part_otherwise(self):
        for meeting, row, other, told in self.cases():
            for thing in spoiled(told):
                self.check(meeting, row, other, thing)

    def test_nothing_handed_in_is_changed(self):
        row, other = ("a", "b", "c"), ("b", "c", "a")
        many, touches, paper = fewest((2, 1), row, other)
        for thing in ([many, touches, paper], (many, list(touches), paper), (many, touches, list(paper)),
                      (many, touches, ("table", list(paper[1]))), (many, tuple(list(one) for one in touches), paper)):
            before = copy.deepcopy(thing)
            self.assertIs(shows_fewest((2, 1), row, other, thing), False)
            self.assertEqual(thing, before)


if __name__ == "__main__":
    unittest.main()
