"""What is in each chart, and what only in some: point 18."""

import itertools
import random
import unittest

from touchboats.musts import musts_of, sures_of
from tests.helpers import (
    all_mornings, drawn_chart, drawn_mornings, is_plain, plainly_agreed, plainly_chart, plainly_charts, plainly_rows,
    plainly_stop, row_of,
)

MEETINGS = [(size, reach) for size in range(1, 9) for reach in range(8)]


class Case(unittest.TestCase):
    def check(self, meeting, mornings):
        """Holds both against all charts."""
        charts = list(plainly_charts(meeting, mornings))
        musts, sures = musts_of(meeting, mornings), sures_of(meeting, mornings)
        self.assertTrue(is_plain((musts, sures)))
        self.assertEqual(musts_of(meeting, mornings), musts)
        self.assertEqual(sures_of(meeting, mornings), sures)
        if charts:
            self.check_musts(meeting, mornings, charts, musts)
            self.check_sures(meeting, mornings, charts, sures)
            return True
        for told in (musts, sures):
            self.assertEqual((told[0], len(told)), ("wall", 2), (meeting, mornings))
            self.assertTrue(plainly_stop(meeting, mornings, None, told[1]))
        return False

    def check_musts(self, meeting, mornings, charts, told):
        have = [{(m, x, y) for m, touches in enumerate(days) for x, y in touches} for rows, days in charts]
        each, some = set.intersection(*have), set.union(*have)
        word, musts, mays = told
        self.assertEqual(word, "must")
        self.assertEqual([must[0] for must in musts], sorted(each), (meeting, mornings))
        self.assertEqual([may[0] for may in mays], sorted(some - each), (meeting, mornings))
        for touch, sets in musts:
            self.assertTrue(plainly_stop(meeting, mornings, ("lacks",) + touch, sets))
        for touch, one, other in mays:
            m, x, y = touch
            self.assertTrue(plainly_chart(meeting, mornings, None, one))
            self.assertIn((x, y), plainly_rows(meeting, mornings, one)[1][m])
            self.assertTrue(plainly_chart(meeting, mornings, ("lacks",) + touch, other))

    def check_sures(self, meeting, mornings, charts, told):
        word, rows, papers = told
        self.assertEqual(word, "sure")
        sure = tuple(plainly_agreed(morning) for morning in zip(*[chart[0] for chart in charts]))
        self.assertEqual(rows, sure, (meeting, mornings))
        torn = [(m, p) for m, row in enumerate(mornings[1]) for p, boat in enumerate(row) if boat is None]
        self.assertEqual([paper[:2] for paper in papers], torn)
        for m, p, kind, part in papers:
            if sure[m][p] is not None:
                self.assertEqual(kind, "wall")
                self.assertTrue(plainly_stop(meeting, mornings, ("not", m, p, sure[m][p]), part))
                continue
            self.assertEqual((kind, len(part)), ("charts", 2))
            stands = []
            for chart in part:
                self.assertTrue(plainly_chart(meeting, mornings, None, chart))
                stands.append(plainly_rows(meeting, mornings, chart)[0][m][p])
            self.assertNotEqual(*stands)


class ByHand(Case):
    def test_one_boat(self):
        for torn in itertools.product(((None,), ("a",)), repeat=3):
            mornings = (("a",), torn)
            self.assertEqual(musts_of((1, 0), mornings), ("must", (), ()))
            word, rows, papers = sures_of((1, 0), mornings)
            self.assertEqual((word, rows), ("sure", (("a",),) * 3))
            self.assertEqual([paper[:3] for paper in papers], [(m, 0, "wall") for m in range(3) if torn[m] == (None,)])
            self.assertTrue(self.check((8, 7), mornings))

    def test_one_way_alone(self):
        mornings = (("a", "b", "c"), (("a", "b", "c"), (None,) * 3, ("b", "c", "a")))
        word, musts, mays = musts_of((3, 0), mornings)
        self.assertEqual([must[0] for must in musts], [(0, "b", "a"), (1, "c", "a")])
        self.assertEqual(mays, ())
        word, rows, papers = sures_of((3, 0), mornings)
        self.assertEqual(rows, (("a", "b", "c"), ("b", "a", "c"), ("b", "c", "a")))
        self.assertEqual([paper[:3] for paper in papers], [(1, p, "wall") for p in range(3)])
        self.assertTrue(self.check((3, 0), mornings))

    def test_two_ways(self):
        # On one of both days c touches a, over b.
        mornings = (("a", "b", "c"), (("a", "b", "c"), (None,) * 3, ("c", "b", "a")))
        word, musts, mays = musts_of((3, 1), mornings)
        self.assertEqual(musts, ())
        self.assertEqual([may[0] for may in mays], [(0, "c", "a"), (1, "c", "a")])
        self.assertEqual(sures_of((3, 1), mornings)[1][1], (None, "b", None))
        self.assertTrue(self.check((3, 1), mornings))
        # By reach 0 three touches are too many for two days.
        for told in (musts_of((3, 0), mornings), sures_of((3, 0), mornings)):
            self.assertEqual(told[0], "wall")
        self.assertFalse(self.check((3, 0), mornings))

    def test_a_must_beside_a_may(self):
        mornings = (("a", "b", "c", "d"), (("a", "b", "c", "d"), (None,) * 4, ("b", "a", "c", "d")))
        self.assertTrue(self.check((2, 0), mornings))
        mornings = (("a", "b", "c", "d"), (("a", "b", "c", "d"), ("b", None, None, None)))
        word, musts, mays = musts_of((4, 0), mornings)
        self.assertEqual([must[0] for must in musts], [(0, "b", "a")])
        self.assertEqual([may[0] for may in mays], [(0, "d", "c")])
        self.assertTrue(self.check((4, 0), mornings))

    def test_a_boat_told_twice(self):
        mornings = (("a", "b"), ((None, None), ("a", "a"), (None, None)))
        self.assertFalse(self.check((2, 0), mornings))


class AgainstAllCharts(Case):
    def test_all_mornings_of_two_boats(self):
        for meeting in ((1, 0), (2, 0)):
            for many in (2, 3):
                for mornings in all_mornings(("a", "b"), many):
                    self.check(meeting, mornings)

    def test_all_torn(self):
        for n in (1, 2, 3):
            for many in (2, 3, 4, 5):
                for meeting in ((1, 0), (2, 1), (3, 0), (3, 1)):
                    if n < 3 or many < 5:
                        self.assertTrue(self.check(meeting, (row_of(n), ((None,) * n,) * many)))
        for meeting in ((1, 0), (2, 1), (3, 1), (4, 0), (4, 2)):
            self.assertTrue(self.check(meeting, (row_of(4), ((None,) * 4,) * 3)))

    def test_all_told(self):
        chance = random.Random(50)
        for meeting in MEETINGS:
            rows = drawn_chart(chance, meeting, chance.randint(1, 4), chance.randint(2, 5))[0]
            mornings = (tuple(sorted(rows[0])), rows)
            self.assertTrue(self.check(meeting, mornings))
            self.assertEqual(musts_of(meeting, mornings)[2], ())
            self.assertEqual(sures_of(meeting, mornings), ("sure", rows, ()))

    def test_torn_mornings_of_a_drawn_chart(self):
        chance = random.Random(51)
        counts = {"musts": 0, "mays": 0, "walls": 0, "charts": 0}
        for meeting in MEETINGS:
            for n in (2, 3, 4, 4):
                rows = drawn_chart(chance, meeting, n, chance.randint(2, 5))[0]
                mornings = drawn_mornings(chance, rows, chance.choice((5, 6, 8) if n == 4 else (3, 5, 7)))
                self.assertTrue(self.check(meeting, mornings))
                musts, sures = musts_of(meeting, mornings), sures_of(meeting, mornings)
                counts["musts"] += len(musts[1])
                counts["mays"] += len(musts[2])
                for paper in sures[2]:
                    counts[paper[2] + ("s" if paper[2] == "wall" else "")] += 1
        self.assertGreater(min(counts.values()), 200)

    def test_one_place_told_otherwise(self):
        chance = random.Random(52)
        found = {True: 0, False: 0}
        for meeting in MEETINGS:
            for n in (2, 3, 4):
                rows = drawn_chart(chance, meeting, n, chance.randint(2, 4))[0]
                boats, torn = drawn_mornings(chance, rows, 6)
                m, p = chance.randrange(len(torn)), chance.randrange(n)
                other = chance.choice([boat for boat in boats if boat != rows[m][p]])
                row = torn[m][:p] + (other,) + torn[m][p + 1:]
                found[self.check(meeting, (boats, torn[:m] + (row,) + torn[m + 1:]))] += 1
        self.assertGreater(min(found.values()), 30)


if __name__ == "__main__":
    unittest.main()
