"""A desk: point 28."""

import random
import unittest

from touchboats.books import Book
from touchboats.deeds import deeds_of
from touchboats.desk import Desk
from touchboats.errors import BoatError, NoLine, NotTold, NoText, Told
from touchboats.fewest import fewest
from touchboats.heads import heads_of
from touchboats.tellings import days_between, told_by
from tests.helpers import (
    LINES, NAMES, drawn_day, drawn_row, drawn_torn_day, odd_things, plainly_few, plainly_heads, plainly_line,
    plainly_papers, plainly_read_row, plainly_shown_day, row_of,
)

MEETINGS = [(size, reach) for size in range(1, 9) for reach in range(8)]
WRONG_NUMBERS = ("-1", "16", "17", "00", "01", "015", "1.0", "+1", "1_0", "", "a", "9" * 5000, "\u0661", "\uff11", "\xb2",
                 "0x1", "1e1", "True", "1\n", "\t1", "-0", "?")


def shown(row):
    return "-" if row is None else " ".join(row)


class Shadow:
    """A book beside a desk, asked by the functions of the points before."""

    def __init__(self, meeting, row):
        self.meeting = meeting
        self.book = Book(meeting, row)
        self.days = {}

    def answer(self, word, *parts):
        if word in ("tell", "torn", "turn", "untell", "unturn"):
            getattr(self.book, word)(*parts)
            if word == "tell":
                self.days[parts[0]] = parts[1]
            return "done"
        if word in ("state", "turned"):
            return getattr(self.book, word)(*parts)
        if word in ("morning", "evening"):
            return shown(getattr(self.book, word)(*parts))
        return getattr(self, word)(self.book.morning(parts[0]), *parts)

    def deeds(self, row, d, boat):
        if self.book.state(d) != "sound" or boat not in row:
            return "-"
        ((name, deeds),) = [one for one in deeds_of(self.meeting, row, self.days[d]) if one[0] == boat]
        return "; ".join(" ".join(str(part) for part in deed if part is not None) for deed in deeds)

    def touches(self, row, d):
        if row is None or self.book.evening(d) is None:
            return "-"
        word, races = told_by(self.meeting, row, self.book.evening(d))
        return plainly_shown_day([race[0] for race in races])

    def free(self, row, d):
        if row is None or self.book.evening(d) is None:
            return "-"
        return str(days_between(self.meeting, row, self.book.evening(d)))

    def few(self, row, d, e):
        other = self.book.morning(e)
        if row is None or other is None or set(row) != set(other):
            return "-"
        if not plainly_papers(self.meeting, len(row)):
            return "great"
        return str(fewest(self.meeting, row, other)[0])

    def heads(self, row, d, many, resting):
        if row is None or len(set(resting)) != len(resting) or not set(resting) <= set(row):
            return "-"
        told = heads_of(self.meeting, row, tuple(sorted(resting)), many)
        return " ".join(boat for boat, thing in told if thing[0] == "can")


class Case(unittest.TestCase):
    def said(self, desk, line):
        """The answer, or the class of the refusal."""
        try:
            told = desk.say(line)
        except BoatError as error:
            self.assertIsInstance(str(error), str)
            return type(error)
        self.assertIs(type(told), str)
        return told

    def check(self, desk, shadow, line):
        """Holds the answer against the book beside it."""
        parts = plainly_line(line)
        try:
            wanted = NoLine if parts is None else shadow.answer(*parts)
        except BoatError as error:
            wanted = type(error)
            self.assertIn(wanted, (Told, NotTold))
        told = self.said(desk, line)
        self.assertEqual(told, wanted, line)
        return told

    def all_of(self, desk):
        """All that the desk answers of each day and turn by itself."""
        lines = [f"{word} {d}" for word in ("morning", "evening", "state", "touches", "free") for d in range(16)]
        return [desk.say(line) for line in lines + [f"turned {y}" for y in range(3)]]


class Begins(Case):
    def test_begins(self):
        desk = Desk("4 2 oak ash elm")
        self.assertEqual(desk.say("morning 0"), "oak ash elm")
        for size in range(1, 9):
            for reach in range(8):
                self.assertEqual(Desk(f"{size} {reach} a").say("morning 0"), "a")
        self.assertEqual(Desk("1 0 " + " ".join(NAMES[:24])).say("morning 0"), " ".join(NAMES[:24]))

    def test_the_meeting_that_is_told(self):
        for size in range(1, 9):
            # By so many sheets a day is sound just where there are as many races.
            for many in range(1, 10):
                desk = Desk(f"{size} 0 " + " ".join(row_of(8)))
                desk.say("tell 0 " + " / ".join(["-"] * many))
                self.assertEqual(desk.say("state 0"), "sound" if many == (8 + size - 1) // size else "struck")
        for reach in range(8):
            row = row_of(9)
            for far in range(8):
                desk = Desk(f"8 {reach} " + " ".join(row))
                drops = " ".join(boat + "!" for boat in row[1:far + 1])
                desk.say(f"tell 0 {drops} {row[far + 1]}>{row[0]} / -".replace("  ", " "))
                self.assertEqual(desk.say("state 0"), "sound" if far <= reach else "struck", (reach, far))

    def test_texts_that_begin_none(self):
        for text in ("", " ", "1", "1 0", "1 0 ", " 1 0 a", "1  0 a", "1 0  a", "1 0 a ", "1 0 a  b", "1\t0 a", "1 0\ta",
                     "1 0 a\n", "0 0 a", "9 0 a", "1 8 a", "1 9 a", "10 0 a", "01 0 a", "1 00 a", "1 07 a", "-1 0 a",
                     "1 -0 a", "+1 0 a", "1.0 0 a", "1 0 A", "1 0 a a", "1 0 a b a", "1 0 a1", "1 0 -", "1 0 ?", "a 0 1",
                     "0 1 a", "(1, 0) a", "1 0 aaaaaaaaa", "1 0 " + " ".join(NAMES[:25]), "\u0661 0 a", "1 \uff10 a",
                     "\xb9 0 a", "1 0 a / b", "1/0 a", "1,0 a", "one 0 a", "1 0 a!", "8" * 4000 + " 0 a"):
            with self.assertRaises(NoText) as caught:
                Desk(text)
            self.assertIs(type(caught.exception), NoText)

    def test_things_of_any_kind(self):
        for thing in odd_things() + [b"1 0 a", ("1", "0", "a"), ["1 0 a"], (1, 0, ("a",))]:
            with self.assertRaises(NoText) as caught:
                Desk(thing)
            self.assertIs(type(caught.exception), NoText)


class ByHand(Case):
    def setUp(self):
        self.desk = Desk("2 0 ash elm fir oak")

    def says(self, *lines):
        for line, told in lines:
            self.assertEqual(self.said(self.desk, line), told, line)

    def test_a_day(self):
        self.says(
            ("state 0", "untold"), ("evening 0", "-"), ("deeds 0 oak", "-"), ("touches 0", "-"), ("free 0", "-"),
            ("tell 0 oak>elm / oak>fir", "done"), ("state 0", "sound"), ("morning 0", "ash elm fir oak"),
            ("evening 0", "ash oak elm fir"), ("morning 1", "ash oak elm fir"), ("deeds 0 oak", "1 u fir; 0 u elm"),
            ("deeds 0 ash", "0 o"), ("deeds 0 elm", "0 t oak"), ("deeds 0 fir", "1 t oak"), ("deeds 0 yew", "-"),
            ("touches 0", "oak>elm / oak>fir"), ("free 0", "2"), ("tell 0 - / -", Told), ("torn 0 ? ?", Told),
            ("untell 1", NotTold), ("unturn 0", NotTold), ("evening 1", "-"), ("morning 2", "-"), ("state 15", "untold"),
            ("untell 0", "done"), ("untell 0", NotTold), ("morning 1", "-"), ("torn 0 ? ?", "done"), ("state 0", "struck"),
            ("touches 0", "- / -"), ("free 0", "32"), ("deeds 0 ash", "-"), ("tell 0 - / -", Told),
        )

    def test_drops_in_the_deeds(self):
        self.says(("tell 0 fir! / fir!", "done"), ("deeds 0 fir", "1 d; 0 d"), ("deeds 0 oak", "1 o"),
                  ("touches 0", "- / -"))

    def test_torn(self):
        self.says(
            ("torn 0 ??? ash elm ? / tu ? ?", "done"), ("state 0", "whole"), ("evening 0", "ash elm oak fir"),
            ("touches 0", "- / oak>fir"), ("free 0", "8"), ("deeds 0 oak", "-"),
            ("torn 1 ??? ? ? ? / ?? ? ?", "done"), ("state 1", "open"), ("evening 1", "-"), ("touches 1", "-"),
            ("free 1", "-"), ("tell 2 - / -", "done"), ("state 2", "waits"), ("morning 2", "-"), ("deeds 2 ash", "-"),
        )

    def test_turns(self):
        self.says(("turn 0 ash / yew box", "done"), ("turned 0", "waits"), ("turned 1", "untold"), ("turn 0 - / -", Told))
        for d in range(4):
            self.says((f"tell {d} - / -", "done"))
        self.says(("turned 0", "sound"), ("morning 4", "elm fir oak yew box"), ("few 3 4", "-"), ("few 4 3", "-"),
                  ("few 0 3", "0"), ("unturn 0", "done"), ("morning 4", "-"), ("few 3 4", "-"),
                  ("turn 0 yew / -", "done"), ("turned 0", "struck"), ("morning 4", "ash elm fir oak"), ("few 0 4", "0"),
                  ("unturn 0", "done"), ("turn 0 elm ash / -", "done"), ("morning 4", "fir oak"))

    def test_few(self):
        self.says(("tell 0 elm>ash / oak>fir", "done"), ("few 0 1", "2"), ("few 1 0", "2"), ("few 0 0", "0"),
                  ("few 0 2", "-"), ("few 2 0", "-"), ("few 15 15", "-"))
        for meeting, n, told in (("3 1", 6, "great"), ("3 0", 6, "1"), ("6 4", 6, "1"), ("6 3", 6, "great"),
                                 ("5 4", 6, "great"), ("5 4", 5, "1"), ("2 1", 5, "1"), ("8 7", 8, "1"), ("8 7", 9, "great"),
                                 ("8 0", 24, "1"), ("8 1", 24, "great")):
            row = row_of(n)
            self.desk = Desk(f"{meeting} {' '.join(row)}")
            races = (n + int(meeting[0]) - 1) // int(meeting[0])
            day = [f"{row[1]}>{row[0]}"] + ["-"] * (races - 1)
            self.says((f"tell 0 {' / '.join(day)}", "done"), ("state 0", "sound"), ("few 0 1", told), ("few 0 2", "-"),
                      ("few 1 1", "great" if told == "great" else "0"))

    def test_heads(self):
        self.says(
            ("heads 0 0", "ash"), ("heads 0 1", "ash elm"), ("heads 0 2", "ash elm fir oak"), ("heads 0 1 ash", "ash"),
            ("heads 0 4 fir", "ash elm"), ("heads 0 2 oak", "ash elm fir"), ("heads 0 2 oak fir elm", "ash"),
            ("heads 0 2 elm oak", "ash"), ("heads 0 4 oak elm ash fir", "ash"), ("heads 0 1 oak oak", "-"),
            ("heads 0 1 yew", "-"), ("heads 0 1 oak yew", "-"), ("heads 1 1", "-"), ("heads 1 0", "-"),
            ("heads 0 5", NoLine), ("heads 16 0", NoLine), ("heads 0", NoLine), ("heads 0 1 ", NoLine),
            ("heads 0 1 OAK", NoLine), ("heads 0 1 oak, elm", NoLine), ("heads 0 1 " + "oak " * 23 + "oak", "-"),
            ("heads 0 1 " + "oak " * 24 + "oak", NoLine),
        )
        row = " ".join(NAMES[:24])
        self.desk = Desk(f"8 0 {row}")
        self.says((f"heads 0 1 {row}", NAMES[0]), (f"heads 0 1 {row} ee", NoLine),
                  (f"heads 0 1 {' '.join(NAMES[1:25])}", "-"))

    def test_lines_that_are_none(self):
        before = self.all_of(self.desk)
        for line in ("", " ", "tell", "tell 0", "tell 0 ", "tell - / -", "tell 0 oak", "tell 0  -", "tell  0 -", " tell 0 -",
                     "tell 0 - ", "tell 0 -\n", "tell\t0 -", "Tell 0 -", "tel 0 -", "tells 0 -", "tell 16 -", "tell 0 - /",
                     "tell 0 oak>oak", "tell 0 fir! elm!", "tell 0 oak>elm oak!", "tell 0 " + " / ".join(["-"] * 25),
                     "torn 0", "torn 0 ?", "torn 0 - / -", "torn 0 ?????????? ? ? ? ? ? ? ? ? ? ?", "torn ? ?",
                     "turn 0", "turn 0 -", "turn 0 - /", "turn 0 / -", "turn 0 /", "turn 0 - / - / -", "turn 3 - / -",
                     "turn 0 ash ash / -", "turn 0 - / box box", "turn 0 -/-", "turn 0 - -", "turn 0 ash box",
                     "turn 0 - ash / -", "turn 0 -  / -", "turn 0 ? / -", f"turn 0 - / {' '.join(NAMES[:25])}",
                     "untell", "untell 0 0", "untell x", "unturn", "unturn 3", "unturn 0 -", "morning", "morning 16",
                     "evening 16", "state", "state 16", "state 0 0", "turned 3", "turned", "deeds 0", "deeds oak",
                     "deeds 0 oak elm", "deeds 0 OAK", "deeds 16 oak", "deeds 0 -", "touches", "touches 0 1", "free 0 -",
                     "few 0", "few 0 16", "few 16 0", "few 0 1 2", "few", "heads", "why 0", "told", "mornings 0",
                     "-", "done", "morning 0\nmorning 0", "morning 0;", "help"):
            self.assertIs(self.said(self.desk, line), NoLine, line)
        self.assertEqual(self.all_of(self.desk), before)

    def test_numbers(self):
        row = "ash elm fir oak"
        for number in range(16):
            self.says((f"state {number}", "untold"), (f"few {number} {number}", "0" if number == 0 else "-"))
        for number in WRONG_NUMBERS:
            for line in (f"tell {number} - / -", f"torn {number} ? ?", f"turn {number} - / -", f"untell {number}",
                         f"unturn {number}", f"morning {number}", f"evening {number}", f"state {number}",
                         f"turned {number}", f"deeds {number} oak", f"touches {number}", f"free {number}",
                         f"few {number} 0", f"few 0 {number}", f"heads {number} 0", f"heads 0 {number}",
                         f"heads {number} 0 oak"):
                self.says((line, NoLine))
        for number in ("3", "4", "15"):
            self.says((f"turned {number}", NoLine), (f"unturn {number}", NoLine), (f"turn {number} - / -", NoLine))
        self.says(("heads 0 3", row), ("heads 0 4", row), ("heads 0 5", NoLine), ("heads 0 10", NoLine))

    def test_things_of_any_kind(self):
        before = self.all_of(self.desk)
        for thing in odd_things() + [b"morning 0", ("morning", "0"), ["morning 0"], ("morning 0",)]:
            self.assertIs(self.said(self.desk, thing), NoLine)
        self.assertEqual(self.all_of(self.desk), before)

    def test_told_and_not_told_by_its_words_first(self):
        self.says(("tell 0 - / -", "done"), ("tell 0 - /", NoLine), ("tell 0 - / -", Told), ("torn 0 x x", NoLine),
                  ("torn 0 ? ?", Told), ("turn 1 - / -", "done"), ("turn 1 -", NoLine), ("turn 1 oak / -", Told),
                  ("unturn 0", NotTold), ("unturn 1", "done"), ("unturn 1", NotTold))


class Drawn(Case):
    def drawn_line(self, chance, shadow):
        """A line, mostly one that tells something of what is known."""
        book, meeting = shadow.book, shadow.meeting
        known = [d for d in range(16) if book.morning(d) is not None]
        untold = [d for d in known if book.state(d) == "untold"]
        d = chance.choice(untold + known) if chance.random() < 0.8 else chance.randrange(16)
        row = book.morning(d) or book.morning(0)
        away = [name for name in NAMES[:24] if name not in row]
        word = chance.choice(list(LINES) + ["tell", "torn", "tell", "turn"])
        side = lambda boats: " ".join(chance.sample(boats, min(chance.choice((0, 1, 2)), len(boats)))) or "-"
        if word == "tell":
            return f"tell {d} {plainly_shown_day(drawn_day(chance, meeting, row))}"
        if word == "torn":
            sheets = drawn_torn_day(chance, meeting, row, chance.choice((5, 9, 10)))
            shows = ["".join(mark or "?" for mark in marks) + " " + " ".join(boat or "?" for boat in behind)
                     for marks, behind in sheets]
            return f"torn {d} {' / '.join(shows)}"
        if word == "turn":
            return f"turn {chance.randrange(3)} {side(row)} / {side(away)}"
        if word in ("unturn", "turned"):
            return f"{word} {chance.randrange(3)}"
        if word == "deeds":
            return f"deeds {d} {chance.choice(row + NAMES[:1])}"
        if word == "few":
            return f"few {d} {chance.choice(known)}"
        if word == "heads":
            resting = chance.sample(row, chance.randint(0, min(3, len(row))))
            return " ".join(["heads", str(d), str(chance.randrange(5)), *resting, *chance.choice([[]] * 8 + [["zz"]])])
        return f"{word} {d}"

    def dialogues(self, seed, meetings, sizes):
        chance = random.Random(seed)
        for meeting in meetings:
            row = drawn_row(chance, chance.choice(sizes))
            yield chance, Desk(f"{meeting[0]} {meeting[1]} {' '.join(row)}"), Shadow(meeting, row)

    def test_dialogues(self):
        answers = {}
        for chance, desk, shadow in self.dialogues(130, MEETINGS, (1, 2, 3, 4, 5, 6, 8, 10)):
            for _ in range(150):
                line = self.drawn_line(chance, shadow)
                told = self.check(desk, shadow, line)
                word = line.split(" ")[0]
                kind = told if told in ("-", "great", "done", Told, NotTold) else "told"
                answers[word, kind] = answers.get((word, kind), 0) + 1
        for word in ("morning", "evening", "deeds", "touches", "free", "few", "heads"):
            self.assertGreater(min(answers[word, "-"], answers[word, "told"]), 50, word)
        for word in ("tell", "torn", "turn"):
            self.assertGreater(min(answers[word, "done"], answers[word, Told]), 50, word)
        for word in ("untell", "unturn"):
            self.assertGreater(min(answers[word, "done"], answers[word, NotTold]), 50, word)
        self.assertGreater(answers["few", "great"], 20)
        self.assertNotIn(NoLine, [kind for word, kind in answers])

    def test_lines_with_a_word_more_fewer_or_otherwise(self):
        others = ["", "0", "1", "15", "16", "3", "5", "-", "/", "?", "aa", "ab", "zz", "A", "aa!", "ab>aa", "tu", "o", "tell",
                  "heads", "few", "01", "\n", "1\n"]
        counts = {}
        for chance, desk, shadow in self.dialogues(131, MEETINGS, (2, 3, 4, 6)):
            for _ in range(60):
                words = self.drawn_line(chance, shadow).split(" ")
                at = chance.randrange(len(words) + 1)
                other = chance.choice(others)
                change = chance.choice(("more", "fewer", "otherwise", "twice"))
                if change == "more":
                    words = words[:at] + [other] + words[at:]
                elif change == "fewer":
                    words = words[:at] + words[at + 1:]
                elif change == "otherwise":
                    words = words[:at] + [other] + words[at + 1:]
                else:
                    words = words[:at] + words[at - 1:at] + words[at:]
                line = " ".join(words)
                before = self.all_of(desk)
                told = self.check(desk, shadow, line)
                if told in (NoLine, Told, NotTold):
                    self.assertEqual(self.all_of(desk), before)
                counts[change, told is NoLine] = counts.get((change, told is NoLine), 0) + 1
        self.assertGreater(min(counts.values()), 15)

    def test_few_and_heads_by_going_through_all(self):
        for chance, desk, shadow in self.dialogues(132, MEETINGS, (1, 2, 3)):
            for d in range(3):
                while desk.say(f"state {d}") in ("untold", "struck"):
                    if desk.say(f"state {d}") == "struck":
                        desk.say(f"untell {d}")
                    row = plainly_read_row(desk.say(f"morning {d}"))
                    desk.say(f"tell {d} {plainly_shown_day(drawn_day(chance, shadow.meeting, row))}")
            rows = [plainly_read_row(desk.say(f"morning {d}")) for d in range(4)]
            for d, row in enumerate(rows):
                for e, other in enumerate(rows):
                    self.assertEqual(desk.say(f"few {d} {e}"), str(plainly_few(shadow.meeting, row, other)))
                for many in range(5):
                    resting = chance.sample(row, chance.randint(0, len(row)))
                    cans = plainly_heads(shadow.meeting, row, tuple(sorted(resting)), many)
                    told = desk.say(" ".join(["heads", str(d), str(many), *resting]))
                    self.assertEqual(told, " ".join(boat for boat in row if boat in cans))

    def test_two_desks_beside_one_another(self):
        chance = random.Random(133)
        for meeting in MEETINGS[::9]:
            row = drawn_row(chance, 4)
            text = f"{meeting[0]} {meeting[1]} {' '.join(row)}"
            desks, shadows = [Desk(text), Desk(text)], [Shadow(meeting, row), Shadow(meeting, row)]
            for _ in range(80):
                k = chance.randrange(2)
                self.check(desks[k], shadows[k], self.drawn_line(chance, shadows[k]))
            for desk, shadow in zip(desks, shadows):
                told = self.all_of(desk)
                self.assertEqual(self.all_of(desk), told)
                for d in range(16):
                    self.check(desk, shadow, f"morning {d}")
                    self.check(desk, shadow, f"state {d}")


if __name__ == "__main__":
    unittest.main()
