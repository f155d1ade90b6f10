"""What is read, and what is refused: point 27."""

import copy
import random
import unittest

from touchboats.errors import BoatError, NoText
from touchboats.reading import read_day, read_row, read_torn
from touchboats.showing import show_day, show_row, show_torn
from tests.helpers import (
    NAMES, drawn_day, drawn_row, drawn_torn_day, odd_things, plainly_read_day, plainly_read_row, plainly_read_torn,
)

MEETINGS = [(size, reach) for size in range(1, 9) for reach in range(8)]
SIGNS = [" ", "  ", "\t", "\n", "\r", "\x00", "\xa0", "\u2003", "/", " / ", "-", "?", "!", ">", "a", "b", "z", "A", "0",
         "_", ".", ",", "u", "t", "d", "o", "\xe9", "\u0430", "\u017f", "\uff41", "\u2028", "'", "\\"]
READS = ((read_row, plainly_read_row, show_row), (read_day, plainly_read_day, show_day),
         (read_torn, plainly_read_torn, show_torn))


class Case(unittest.TestCase):
    def check(self, read, slow, show, text):
        """Whether it is read; and if so, as it was, and else refused with NoText alone."""
        wanted = slow(text)
        try:
            told = read(text)
        except BoatError as error:
            self.assertIs(type(error), NoText, text)
            self.assertIsNone(wanted, text)
            return False
        self.assertEqual(told, wanted, text)
        self.assertEqual(show(told), text)
        self.assertEqual(read(text), told)
        return True

    def check_all(self, text):
        return [self.check(*case, text) for case in READS]


def changed(text):
    """The text with a sign more, fewer or otherwise, two exchanged, and with blanks."""
    for at in range(len(text) + 1):
        for sign in SIGNS:
            yield text[:at] + sign + text[at:]
            if at < len(text):
                yield text[:at] + sign + text[at + 1:]
        yield text[:at] + text[at + 1:]
        if at + 1 < len(text):
            yield text[:at] + text[at + 1] + text[at] + text[at + 2:]
    for blanks in (" ", "  ", "\n", "\t"):
        yield blanks + text
        yield text + blanks
        yield text.replace(" ", blanks)
    yield text.upper()
    yield text * 2
    yield f"{text} {text}"
    yield f"{text} / {text}"


class ByHand(Case):
    def refused(self, read, *texts):
        for text in texts:
            with self.assertRaises(NoText) as caught:
                read(text)
            self.assertIs(type(caught.exception), NoText)

    def test_rows(self):
        self.assertEqual(read_row("oak ash"), ("oak", "ash"))
        self.assertEqual(read_row(" ".join(NAMES[:24])), NAMES[:24])
        self.refused(read_row, "", " ", "a ", " a", "a  b", "a b a", "a\tb", "a\nb", "a b\n", "aaaaaaaaa", "A", "a,b", "-",
                     "?", "a ?", "a / b", "a!", "a>b", "a1", " ".join(NAMES[:25]), "\xe4", "a\xa0b")

    def test_days(self):
        self.assertEqual(read_day("a! c>b / -"), ((("drop", "a"), ("touch", "c", "b")), ()))
        self.refused(read_day, "", " ", "/", " / ", "- / ", " / -", "-/-", "- /-", "-/ -", "-  / -", "- /  -", "- / / -",
                     "- -", "--", "- a!", "a! -", "a!  b!", "a! ", " a!", "a", "a b", "a>", ">a", ">", "!", "a>a", "a>b>c",
                     "a>b!", "a!!", "!a", "a! >b", "a !", "a > b", "a>b c", "A!", "a>B", "aaaaaaaaa!", "a>bbbbbbbbb",
                     "a!\tb!", "a!\nb!", "a!\n", "a! b! / c", "?", "a! / ?")
        # An order that doesn't rise, and events twice.
        self.refused(read_day, "b! a!", "c>b a!", "a! a!", "b>a b>a", "c>b b>a", "b>c b>a", "- / b! a!")
        self.assertEqual(read_day(" / ".join(["-"] * 24)), ((),) * 24)
        self.refused(read_day, " / ".join(["-"] * 25), " / ".join(["a!"] * 25))

    def test_torn_sheets(self):
        self.assertEqual(read_torn("t?u ? b ? / o a"), ((("t", None, "u"), (None, "b", None)), (("o",), ("a",))))
        self.refused(read_torn, "", " ", "?", "? ", " ?", "?? ?", "? ? ?", "?  ?", "x a", "t?u a b", "tu a  b", "tu a b ",
                     " tu a b", "tu  a b", "t u a b", "T a", "o A", "o aaaaaaaaa", "o -", "- -", "-", "o a/o a", "o a /o a",
                     "o a/ o a", "o a / ", " / o a", "o a /  o a", "o a / / o a", "o a\n", "o\ta", "o a!", "tu a?b", "tu ??",
                     "o a / tu a")
        for many in range(1, 12):
            text = "?" * many + " ?" * many
            if many <= 9:
                self.assertEqual(read_torn(text), (((None,) * many, (None,) * many),))
            else:
                self.refused(read_torn, text)
            self.refused(read_torn, "?" * (many + 1) + " ?" * many, "?" * many + " ?" * (many + 1))
        self.assertEqual(len(read_torn(" / ".join(["? ?"] * 24))), 24)
        self.refused(read_torn, " / ".join(["? ?"] * 25))

    def test_none_is_read_as_another(self):
        self.assertEqual(self.check_all("a b"), [True, False, False])
        self.assertEqual(self.check_all("o b"), [True, False, True])
        self.assertEqual(self.check_all("a!"), [False, True, False])
        self.assertEqual(self.check_all("-"), [False, True, False])


class Changed(Case):
    TEXTS = ("a", "ab c", "oak ash elm", "aaaaaaaa b", "-", "- / -", "a!", "b>a", "a! b! d>c", "a! / - / c>b e>d",
             "drop! touch>x", "? ?", "o a", "tu b a", "t?u ? b ?", "tu b a / ? ? / oo c ?", "????????? ? ? ? ? ? ? ? ? ?")

    def test_with_a_sign_more_fewer_or_otherwise(self):
        read = 0
        for text in self.TEXTS:
            self.assertIn(True, self.check_all(text))
            for other in changed(text):
                read += any(self.check_all(other))
        self.assertGreater(read, 100)

    def test_drawn_ones_changed(self):
        chance = random.Random(120)
        counts = {True: 0, False: 0}
        for meeting in MEETINGS:
            row = drawn_row(chance, chance.choice((1, 2, 5, 11, 24)))
            for text in (show_row(row), show_day(drawn_day(chance, meeting, row)),
                         show_torn(drawn_torn_day(chance, meeting, row, 7))):
                for _ in range(60):
                    at, sign = chance.randrange(len(text)), chance.choice(SIGNS + [""])
                    other = text[:at] + sign + text[at + chance.choice((0, 1)):]
                    if chance.random() < 0.2:
                        words = text.split(" ")
                        chance.shuffle(words)
                        other = " ".join(words)
                    counts[any(self.check_all(other))] += 1
        self.assertGreater(min(counts.values()), 1000)


class OfAnything(Case):
    def test_things_that_are_no_texts(self):
        for thing in odd_things():
            self.check_all(thing)
            if not isinstance(thing, str):
                for read, slow, show in READS:
                    with self.assertRaises(NoText):
                        read(thing)

    def test_what_was_told_is_no_text(self):
        for thing in (("a", "b"), ((),), ((("o",), ("a",)),), b"a b", bytearray(b"a"), ["a"], None, 0, True):
            before = copy.deepcopy(thing)
            for read, slow, show in READS:
                with self.assertRaises(NoText):
                    read(thing)
            self.assertEqual(thing, before)


if __name__ == "__main__":
    unittest.main()
