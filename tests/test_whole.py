"""The promise over the whole program: point 3, small drawn cases gone through whole."""

import itertools
import random
import unittest

from touchboats.books import Book
from touchboats.chartlooks import shows_chart, shows_stop
from touchboats.charts import chart_by
from touchboats.days import day_behind, starts_of
from touchboats.deeds import deeds_of
from touchboats.desk import Desk
from touchboats.errors import BoatError
from touchboats.fewest import fewest, touch_places
from touchboats.fewlooks import shows_fewest
from touchboats.headlooks import shows_head
from touchboats.heads import heads_of
from touchboats.marks import is_word, marks_of, sheet_by
from touchboats.mending import fits_torn, mended
from touchboats.mendlooks import shows_mended
from touchboats.musts import musts_of, sures_of
from touchboats.racelooks import shows_unsound
from touchboats.races import gone_by, is_sheet, order_of, row_behind, sheet_of
from touchboats.reading import read_day, read_row, read_torn
from touchboats.rows import exchanged, races_of
from touchboats.showing import show_day, show_row, show_torn
from touchboats.telllooks import shows_untold
from touchboats.tellings import days_between, told_by
from touchboats.wordcounts import all_words, how_many, rows_from
from tests.helpers import (
    all_bans, all_events, all_sheets, asked_of, drawn_chart, drawn_day, drawn_mornings, drawn_resting, drawn_row,
    drawn_torn, drawn_torn_day, plainly_agreed, plainly_charts, plainly_heads, sheets_once, sound_days, subsets,
)

MEETINGS = [(size, reach) for size in range(1, 9) for reach in range(8)]


class Races(unittest.TestCase):
    """(a)"""

    def reasons(self, sheet, start):
        """All that could be a reason of this sheet, and much that couldn't."""
        touches = [event for event in all_events(start) if event[0] == "touch"]
        for x in start + ("z",):
            yield from (("strange", x), ("twice", x))
        for e in touches:
            yield from (("wrong", e), ("far", e))
            yield from (("stays", e, x) for x in start)
            yield from (("cross", e, g) for g in touches)

    def test_each_sheet_has_an_order_or_a_reason(self):
        chance = random.Random(140)
        for n, reach in itertools.product((1, 2, 3), (0, 1, 2)):
            start = drawn_row(chance, n)
            for sheet in all_sheets(start + ("z",) if n < 2 else start):
                # Of so many events one boat is in two.
                if len(sheet) > 4:
                    continue
                rows = {gone_by(start, reach, events) for events in itertools.permutations(sheet)}
                rows = {row for word, row in rows if word == "course"}
                word, told = order_of(start, reach, sheet)
                shown = any(shows_unsound(start, reach, sheet, reason) for reason in self.reasons(sheet, start))
                if word == "course":
                    self.assertEqual(rows, {row_behind(start, sheet)})
                    self.assertEqual(gone_by(start, reach, told), ("course", row_behind(start, sheet)))
                    self.assertEqual(sheet_of(told), sheet)
                    self.assertFalse(shown)
                else:
                    self.assertEqual((word, rows), ("unsound", set()))
                    self.assertTrue(shows_unsound(start, reach, sheet, told))
                    self.assertTrue(shown)


class Marks(unittest.TestCase):
    """(b)"""

    def test_marks_and_sheets_tell_one_another(self):
        chance = random.Random(141)
        for n, reach in itertools.product(range(1, 6), range(8)):
            start = drawn_row(chance, n)
            sound = [sheet for sheet in sheets_once(start) if order_of(start, reach, sheet)[0] == "course"]
            words = [marks_of(start, sheet) for sheet in sound]
            self.assertEqual(sorted(words), list(all_words(n, reach)))
            for sheet, word in zip(sound, words):
                self.assertTrue(is_sheet(sheet) and is_word(reach, word))
                self.assertEqual(sheet_by(start, word), sheet)
            self.assertEqual(how_many(n, reach), len(set(words)))
            self.assertEqual(rows_from(n, reach), len({row_behind(start, sheet) for sheet in sound}))


class TwoMornings(unittest.TestCase):
    """(c)"""

    def walk_deeds(self, meeting, row, day, behind):
        starts = starts_of(meeting, row, day)
        for boat, deeds in deeds_of(meeting, row, day):
            place = row.index(boat)
            for k, mark, other in deeds:
                first = k * meeting[0]
                self.assertEqual(starts[k][place - first], boat)
                if mark in "ut":
                    place = first + starts[k].index(other)
                else:
                    self.assertIsNone(other)
            self.assertEqual(behind[place], boat)

    def days_told(self, races):
        """All days of which each race has the touches, the drops and drops of some of free."""
        sheets = [[sheet_of(touches + tuple(("drop", x) for x in drops + some)) for some in subsets(free)]
                  for touches, drops, free in races]
        return set(itertools.product(*sheets))

    def test_two_mornings(self):
        chance = random.Random(142)
        for meeting in MEETINGS:
            row = drawn_row(chance, chance.choice((1, 2, 3, 4)))
            lead = {}
            for day in sound_days(meeting, row):
                word, behind = day_behind(meeting, row, day)
                self.assertEqual(word, "row")
                self.walk_deeds(meeting, row, day, behind)
                lead.setdefault(behind, set()).add(day)
            untold = []
            for other in itertools.permutations(row):
                told = told_by(meeting, row, other)
                days = lead.get(other, set())
                self.assertEqual(days_between(meeting, row, other), len(days))
                self.assertEqual(told[0], "told" if days else "untold")
                if days:
                    self.assertEqual(self.days_told(told[1]), days)
                else:
                    self.assertTrue(shows_untold(meeting, row, other, told))
                    untold.append(told)
            for other in lead:
                self.assertFalse(any(shows_untold(meeting, row, other, told) for told in untold))


class TornSheets(unittest.TestCase):
    """(d)"""

    def test_made_whole_where_all_agree(self):
        chance = random.Random(143)
        told_ones = {}
        for _ in range(300):
            n, reach = chance.randint(1, 4), chance.randint(0, 3)
            start = drawn_row(chance, n)
            torn = drawn_torn(chance, start, chance.choice(all_words(n, reach)), chance.randint(0, 7))
            if chance.random() < 0.2:
                torn = (torn[0], (chance.choice(start),) + torn[1][1:])
            words = [word for word in all_words(n, reach) if fits_torn(start, reach, torn, word)]
            told = mended(start, reach, torn)
            self.assertTrue(shows_mended(start, reach, torn, told))
            if not words:
                self.assertEqual(told, ("none",))
                continue
            rows = [row_behind(start, sheet_by(start, word)) for word in words]
            self.assertEqual(told[1:3], (plainly_agreed(words), plainly_agreed(rows)))
            asked = [(kind, place) for kind, parts in (("mark", told[1]), ("boat", told[2]))
                     for place, part in enumerate(parts) if part is None]
            self.assertEqual([paper[:2] for paper in told[3]], asked)
            for kind, place, one, other in told[3]:
                self.assertTrue(fits_torn(start, reach, torn, one) and fits_torn(start, reach, torn, other))
                parts = [one, other] if kind == "mark" else [rows[words.index(one)], rows[words.index(other)]]
                self.assertNotEqual(parts[0][place], parts[1][place])
            # What is told of another torn sheet is taken just where it is so of this one.
            for other in told_ones.setdefault((start, reach), []):
                if shows_mended(start, reach, torn, other):
                    self.assertEqual(other[1:3], told[1:3])
            told_ones[start, reach].append(told)


class TornMornings(unittest.TestCase):
    """(e)"""

    def test_charts_walls_musts_and_sures(self):
        chance = random.Random(144)
        walls = 0
        for meeting in MEETINGS:
            rows = drawn_chart(chance, meeting, chance.choice((1, 2, 3)), chance.choice((2, 3, 4)))[0]
            boats, torn = drawn_mornings(chance, rows, chance.choice((2, 5, 8)))
            if chance.random() < 0.3:
                torn = torn[:-1] + ((chance.choice(boats),) + torn[-1][1:],)
            mornings = (boats, torn)
            papers = []
            for ban in all_bans(mornings):
                charts = list(plainly_charts(meeting, mornings, ban))
                word, paper = chart_by(meeting, mornings, ban)
                self.assertEqual(word, "chart" if charts else "wall")
                self.assertTrue((shows_chart if charts else shows_stop)(meeting, mornings, ban, paper))
                papers.append(paper)
                walls += not charts
            for ban in all_bans(mornings):
                some = any(True for chart in plainly_charts(meeting, mornings, ban))
                for paper in papers:
                    self.assertFalse(shows_stop(meeting, mornings, ban, paper) and some)
                    self.assertFalse(shows_chart(meeting, mornings, ban, paper) and not some)
            self.check_musts_and_sures(meeting, mornings)
        self.assertGreater(walls, 100)

    def check_musts_and_sures(self, meeting, mornings):
        charts = list(plainly_charts(meeting, mornings))
        musts, sures = musts_of(meeting, mornings), sures_of(meeting, mornings)
        if not charts:
            for told in (musts, sures):
                self.assertEqual(told[0], "wall")
                self.assertTrue(shows_stop(meeting, mornings, None, told[1]))
            return
        have = [{(m, x, y) for m, touches in enumerate(days) for x, y in touches} for rows, days in charts]
        self.assertEqual([must[0] for must in musts[1]], sorted(set.intersection(*have)))
        self.assertEqual([may[0] for may in musts[2]], sorted(set.union(*have) - set.intersection(*have)))
        for touch, sets in musts[1]:
            self.assertTrue(shows_stop(meeting, mornings, ("lacks", *touch), sets))
        for touch, one, other in musts[2]:
            self.assertTrue(shows_chart(meeting, mornings, None, one))
            self.assertFalse(shows_chart(meeting, mornings, ("lacks", *touch), one))
            self.assertTrue(shows_chart(meeting, mornings, ("lacks", *touch), other))
        self.assertEqual(sures[1], tuple(plainly_agreed(part) for part in zip(*[rows for rows, days in charts])))
        for m, p, kind, part in sures[2]:
            if kind == "wall":
                self.assertTrue(shows_stop(meeting, mornings, ("not", m, p, sures[1][m][p]), part))
            else:
                stands = [{x for x in mornings[0] if not shows_chart(meeting, mornings, ("not", m, p, x), chart)}
                          for chart in part]
                self.assertEqual([len(one) for one in stands], [1, 1])
                self.assertNotEqual(*stands)


class FewestTouches(unittest.TestCase):
    """(f)"""

    def fewest_by_search(self, meeting, row):
        far, fresh = {row: 0}, [row]
        while fresh:
            stands = fresh.pop(0)
            for p, q in touch_places(meeting, len(row)):
                behind = exchanged(stands, p, q)
                if behind not in far:
                    far[behind] = far[stands] + 1
                    fresh.append(behind)
        return far

    def test_no_touches_that_are_fewer(self):
        chance = random.Random(145)
        for meeting in MEETINGS:
            row = drawn_row(chance, chance.choice((1, 2, 3, 4)))
            far = self.fewest_by_search(meeting, row)
            told = {other: fewest(meeting, row, other) for other in itertools.permutations(row)}
            self.assertEqual({other: thing[0] for other, thing in told.items()}, far)
            for other in told:
                self.assertTrue(shows_fewest(meeting, row, other, told[other]))
                for thing in told.values():
                    for paper in (("pairs",), ("rounds",), told[other][2]):
                        if shows_fewest(meeting, row, other, (thing[0], thing[1], paper)):
                            self.assertEqual(thing[0], far[other])


class Heads(unittest.TestCase):
    """(g)"""

    def test_who_can_and_who_cannot(self):
        chance = random.Random(146)
        for meeting in MEETINGS:
            row = drawn_row(chance, chance.choice((1, 2, 3)))
            for many in range(5):
                resting = drawn_resting(chance, row)
                told = heads_of(meeting, row, resting, many)
                cans = plainly_heads(meeting, row, resting, many)
                self.assertEqual([boat for boat, thing in told], list(row))
                for boat, thing in told:
                    self.assertEqual(thing[0], "can" if boat in cans else "cannot")
                    self.assertTrue(shows_head(meeting, row, resting, many, boat, thing))
                    for other in row:
                        if shows_head(meeting, row, resting, many, other, thing):
                            self.assertIs(other in cans, thing[0] == "can")
                    places = [tuple(range(1, len(row))), tuple(range(len(row))), ()]
                    for sets in itertools.product(places, repeat=many + 1):
                        taken = shows_head(meeting, row, resting, many, boat, ("cannot", sets))
                        self.assertFalse(taken and boat in cans)


class BooksAndTexts(unittest.TestCase):
    """(h)"""

    def drawn_tellings(self, chance, meeting, row):
        """What is told of some days, each by the row that the ones ahead lead to, and of each turn."""
        book, days, turns = Book(meeting, row), {}, {}
        for d in range(16):
            stands = book.morning(d) or row
            if chance.random() < 0.5:
                days[d] = ("tell", drawn_day(chance, meeting, stands))
            elif chance.random() < 0.95:
                days[d] = ("torn", drawn_torn_day(chance, meeting, stands, chance.choice((9, 10, 10, 10))))
            if d in days:
                getattr(book, days[d][0])(*(d, days[d][1]))
            if d in (3, 7, 11):
                stands = book.evening(d) or row
                turns[d // 4] = (stands[:1] if chance.random() < 0.5 else (), ("x" + "yz"[d % 2],) * chance.randrange(2))
                book.turn(d // 4, *turns[d // 4])
        return days, turns, asked_of(book)

    def lines(self, days, turns):
        shows = {"tell": show_day, "torn": show_torn}
        lines = [f"{kind} {d} {shows[kind](thing)}" for d, (kind, thing) in days.items()]
        sides = [(y, [show_row(side) or "-" for side in sides]) for y, sides in turns.items()]
        return lines + [f"turn {y} {goes} / {comes}" for y, (goes, comes) in sides]

    def test_told_late_taken_back_and_told_again(self):
        chance = random.Random(147)
        known = 0
        for meeting in MEETINGS:
            row = drawn_row(chance, chance.choice((1, 2, 3, 4, 6)))
            days, turns, told = self.drawn_tellings(chance, meeting, row)
            known += told["morning"][8] is not None
            desk = Desk(f"{meeting[0]} {meeting[1]} {show_row(row)}")
            lines = self.lines(days, turns)
            # All otherwise at first, then each taken back and told as it stands, in any order.
            for d in days:
                desk.say(f"tell {d} -")
            for line in chance.sample(lines, len(lines)):
                word, number = line.split(" ")[:2]
                self.assertEqual(desk.say(f"untell {number}") if word != "turn" else "done", "done")
                self.assertEqual(desk.say(line), "done")
                with self.assertRaises(BoatError):
                    desk.say(line)
            for d in range(16):
                self.assertEqual(desk.say(f"state {d}"), told["state"][d])
                self.assertEqual(desk.say(f"evening {d}"), "-" if told["evening"][d] is None else show_row(told["evening"][d]))
                self.assertEqual(desk.say(f"morning {d}"), "-" if told["morning"][d] is None else show_row(told["morning"][d]))
                self.check_a_day(meeting, desk, d, days, told)
            self.assertEqual([desk.say(f"turned {y}") for y in range(3)], told["turned"])
        self.assertGreater(known, 10)

    def check_a_day(self, meeting, desk, d, days, told):
        row, other = told["morning"][d], told["evening"][d]
        if row is None or other is None:
            self.assertEqual((desk.say(f"touches {d}"), desk.say(f"free {d}")), ("-", "-"))
            return
        races = told_by(meeting, row, other)[1]
        self.assertEqual(read_day(desk.say(f"touches {d}")), tuple(race[0] for race in races))
        self.assertEqual(desk.say(f"free {d}"), str(days_between(meeting, row, other)))
        if told["state"][d] == "sound":
            for boat, deeds in deeds_of(meeting, row, days[d][1]):
                shown = "; ".join(f"{k} {mark}" + (f" {other}" if other else "") for k, mark, other in deeds)
                self.assertEqual(desk.say(f"deeds {d} {boat}"), shown)

    def test_what_is_written_is_read_as_it_was(self):
        chance = random.Random(148)
        for meeting in MEETINGS:
            row = drawn_row(chance, chance.randint(1, 24))
            day = drawn_day(chance, meeting, row)
            sheets = drawn_torn_day(chance, meeting, row, 5)
            self.assertEqual(read_row(show_row(row)), row)
            self.assertEqual(read_day(show_day(day)), day)
            self.assertEqual(read_torn(show_torn(sheets)), sheets)
            self.assertEqual(len(read_day(show_day(day))), races_of(meeting, len(row)))


if __name__ == "__main__":
    unittest.main()
