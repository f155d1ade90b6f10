"""A look at a torn sheet made whole: the end of point 15."""

import copy
import itertools
import random
import unittest

from touchboats.mending import mended
from touchboats.mendlooks import shows_mended
from tests.helpers import (
    drawn_row, drawn_torn, nested, odd_things, plainly_fits, plainly_mended, plainly_row_by, plainly_words, row_of,
    spoiled, WRAPS,
)


def none_of(many):
    return (None,) * many


def tuples_of(text):
    return tuple(tuple(word) for word in text.split())


class ByHand(unittest.TestCase):
    START = ("a", "b", "c")
    # What fits is "ood", "odd", "dod", "ddd", "tud".
    TORN = ((None, None, "d"), none_of(3))
    MARKS, ROW = (None, None, "d"), (None, None, "c")

    def looks(self, taken, *things):
        for thing in things:
            self.assertIs(shows_mended(self.START, 1, self.TORN, thing), taken, thing)

    def some(self, *papers):
        return ("some", self.MARKS, self.ROW, papers)

    def papers(self, mark0, mark1, boat0, boat1):
        return (("mark", 0, *tuples_of(mark0)), ("mark", 1, *tuples_of(mark1)),
                ("boat", 0, *tuples_of(boat0)), ("boat", 1, *tuples_of(boat1)))

    def test_all_words_that_fit_and_differ_there(self):
        words = ["ood", "odd", "dod", "ddd", "tud"]
        for one, other in itertools.product(words, repeat=2):
            pair = f"{one} {other}"
            self.looks(one[0] != other[0], self.some(*self.papers(pair, "odd ood", "ood tud", "tud ddd")))
            self.looks(one[1] != other[1], self.some(*self.papers("ddd odd", pair, "ood tud", "tud ddd")))
            self.looks(("tud" in (one, other)) and one != other,
                       self.some(*self.papers("ddd odd", "odd ood", pair, "tud ddd")),
                       self.some(*self.papers("ddd odd", "odd ood", "ood tud", pair)))

    def test_words_that_do_not_fit(self):
        for pair in ("ood tuo", "tuo ood", "oo tu", "ood tudd", "ood tod", "ood tdu", "ood xud"):
            self.looks(False, self.some(*self.papers(pair, "odd ood", "ood tud", "tud ddd")),
                       self.some(*self.papers("ddd odd", "odd ood", "ood tud", pair)))

    def test_papers_more_fewer_and_in_another_order(self):
        papers = self.papers("ddd odd", "odd ood", "ood tud", "tud ddd")
        self.looks(True, self.some(*papers))
        for k in range(4):
            self.looks(False, self.some(*papers[:k], *papers[k + 1:]), self.some(*papers[:k], papers[k], *papers[k:]))
        for other in itertools.permutations(papers):
            self.looks(other == papers, self.some(*other))
        for place in (-1, 1, 2, 3, None, False, "0"):
            self.looks(False, self.some(("mark", place, *papers[0][2:]), *papers[1:]))
        # "ood" and "tud" differ at place 0 in both, yet a mark's paper is none of a boat's.
        both = tuples_of("ood tud")
        self.looks(True, self.some(("mark", 0, *both), *papers[1:]))
        self.looks(False, self.some(("boat", 0, *both), *papers[1:]))
        self.looks(False, self.some(*papers[:2], ("mark", 0, *both), papers[3]))

    def test_another_agreement(self):
        papers = self.papers("ddd odd", "odd ood", "ood tud", "tud ddd")
        for marks, row, left in (
            (none_of(3), self.ROW, papers),
            (("o", None, "d"), self.ROW, papers[1:]),
            (("o", None, "d"), self.ROW, papers),
            (self.MARKS, none_of(3), papers),
            (self.MARKS, ("a", None, "c"), papers[:2] + papers[3:]),
            (self.MARKS, ("a", "b", "c"), papers[:2]),
            (self.MARKS + (None,), self.ROW, papers),
            (self.MARKS[1:], self.ROW, papers),
            (self.ROW, self.MARKS, papers),
            (list(self.MARKS), self.ROW, papers),
            (self.MARKS, self.ROW, list(papers)),
        ):
            self.looks(False, ("some", marks, row, left))
        self.looks(False, ("none",), (), ("some",), ("none", self.MARKS, self.ROW, papers), self.some(*papers)[:3])
        self.looks(False, self.some(*papers) + ((),), self.some(*papers)[1:])

    def test_none(self):
        start = ("a", "b")
        for torn, none in (
            ((("u", None), none_of(2)), True),
            ((none_of(2), ("z", None)), True),
            ((none_of(2), ("b", "b")), True),
            ((("o", None), ("b", None)), True),
            ((("o", "o"), none_of(2)), False),
            ((none_of(2), none_of(2)), False),
        ):
            self.assertIs(shows_mended(start, 0, torn, ("none",)), none, torn)
            for thing in (["none"], ("none", ()), ("none", None), (), ("some",), "none", (("none",),), ("",), (None,),
                          ("some", none_of(2), none_of(2), ())):
                self.assertIs(shows_mended(start, 0, torn, thing), False, (torn, thing))
        self.assertIs(shows_mended(start, 0, (("o", "o"), none_of(2)), ("some", ("o", "o"), start, ())), True)


class AgainstTheWords(unittest.TestCase):
    def check(self, start, reach, torn, thing):
        told = shows_mended(start, reach, torn, thing)
        self.assertIs(told, plainly_mended(start, reach, torn, thing), (start, reach, torn, thing))
        return told

    def cases(self, seed, many):
        chance = random.Random(seed)
        for _ in range(many):
            n, reach = chance.randint(1, 7), chance.randint(0, 7)
            start = drawn_row(chance, n)
            word = chance.choice(plainly_words(n, reach))
            yield chance, start, reach, drawn_torn(chance, start, word, chance.randint(0, 9))

    def test_what_mended_tells_is_taken(self):
        for n in range(1, 8):
            for reach in range(8):
                torn = (none_of(n), none_of(n))
                self.assertTrue(shows_mended(row_of(n), reach, torn, mended(row_of(n), reach, torn)))
        for chance, start, reach, torn in self.cases(30, 200):
            told = mended(start, reach, torn)
            self.assertTrue(self.check(start, reach, torn, told))
            self.assertFalse(self.check(start, reach, torn, ("none",)))
            at = chance.randrange(len(start))
            other = (torn[0], torn[1][:at] + (chance.choice(start),) + torn[1][at + 1:])
            self.assertTrue(self.check(start, reach, other, mended(start, reach, other)))
            self.check(start, reach, other, told)

    def test_other_words_in_a_paper(self):
        taken = left = 0
        for chance, start, reach, torn in self.cases(31, 150):
            word, marks, row, papers = mended(start, reach, torn)
            words = [word for word in plainly_words(len(start), reach) if plainly_fits(start, reach, torn, word)]
            for k, (kind, place, one, other) in enumerate(papers):
                fresh = (kind, place, chance.choice(words), chance.choice(words))
                if self.check(start, reach, torn, ("some", marks, row, papers[:k] + (fresh,) + papers[k + 1:])):
                    taken += 1
                else:
                    left += 1
        self.assertGreater(min(taken, left), 100)

    def test_all_pairs_of_words(self):
        # Some differ there in their marks and not in the rows, as "ddo" and "odo"; some the other way about.
        start, torn = ("a", "b", "c"), (none_of(3), none_of(3))
        word, marks, row, papers = mended(start, 1, torn)
        for k, (kind, place, one, other) in enumerate(papers):
            for pair in itertools.permutations(plainly_words(3, 1), 2):
                fresh = ("some", marks, row, papers[:k] + ((kind, place, *pair),) + papers[k + 1:])
                parts = pair if kind == "mark" else [plainly_row_by(start, word) for word in pair]
                self.assertIs(shows_mended(start, 1, torn, fresh), parts[0][place] != parts[1][place])


class OfAnything(unittest.TestCase):
    CASES = (
        (("a",), 0, ((None,), (None,))),
        (("a",), 0, (("t",), (None,))),
        (("a", "b"), 0, (("o", None), none_of(2))),
        (("b", "a"), 0, (none_of(2), ("b", None))),
        (("a", "b", "c"), 1, ((None, None, "d"), none_of(3))),
        (("a", "b", "c"), 1, (("t", None, None), none_of(3))),
        (("a", "b", "c"), 1, (none_of(3), ("c", None, None))),
    )

    def test_things_of_any_kind(self):
        things = odd_things()
        for case in self.CASES:
            told = mended(*case)
            for thing in things:
                self.assertIs(shows_mended(*case, thing), plainly_mended(*case, thing))
                self.assertIs(shows_mended(*case, (thing,)), plainly_mended(*case, (thing,)))
                if told[0] == "some":
                    for at in range(4):
                        whole = told[:at] + (thing,) + told[at + 1:]
                        self.assertIs(shows_mended(*case, whole), plainly_mended(*case, whole))

    def test_told_ones_with_a_part_otherwise(self):
        for case in self.CASES:
            for thing in spoiled(mended(*case)):
                self.assertIs(shows_mended(*case, thing), plainly_mended(*case, thing))

    def test_doubled_nests_within_the_papers(self):
        case = self.CASES[2]
        word, marks, row, papers = mended(*case)
        self.assertIs(shows_mended(*case, (word, marks, row, papers)), True)
        for wrap in WRAPS:
            for core in (papers[0], papers[0][2], "o"):
                deep = nested(core, 27, wrap)
                for paper in (deep, ("mark", deep, *papers[0][2:]), ("mark", 1, deep, papers[0][3]),
                              ("mark", 1, papers[0][2], ("o", deep))):
                    self.assertIs(shows_mended(*case, (word, marks, row, (paper,) + papers[1:])), False)

    def test_nothing_handed_in_is_changed(self):
        case = self.CASES[2]
        told = mended(*case)
        for thing in (list(told), told[:3] + (list(told[3]),), told[:1] + (list(told[1]),) + told[2:], ["none"]):
            before = copy.deepcopy(thing)
            self.assertIs(shows_mended(*case, thing), False)
            self.assertEqual(thing, before)


if __name__ == "__main__":
    unittest.main()
