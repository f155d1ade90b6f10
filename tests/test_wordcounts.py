"""All words and how many there are: point 10."""

import itertools
import unittest

from touchboats.marks import is_word, sheet_by
from touchboats.races import row_behind
from touchboats.wordcounts import all_words, how_many, rows_from
from tests.helpers import is_plain, plainly_word, row_of, sound_sheets

WORDS = (2, 5, 13, 35, 96, 267, 750)
ROWS = (1, 2, 4, 9, 21, 51, 127)


def counted(many, reach, singles):
    """How many words there are, mark by mark, by how far back each unclosed "t" stands."""
    states = {(): 1}
    for _ in range(many):
        grown = {}
        for state, count in states.items():
            older = tuple(age + 1 for age in state)
            following = [older + (0,)]
            following += [older] * (singles if not state else 1)
            # An age of one stands for no mark between.
            if state and older[-1] - 1 <= reach:
                following.append(older[:-1])
            for more in following:
                grown[more] = grown.get(more, 0) + count
        states = grown
        states = {state: count for state, count in states.items() if not state or state[0] <= reach}
    return states.get((), 0)


class Told(unittest.TestCase):
    def test_the_numbers_of_the_document(self):
        for many in range(1, 8):
            for reach in range(max(many - 2, 0), 10):
                self.assertEqual(how_many(many, reach), WORDS[many - 1], (many, reach))
                self.assertEqual(rows_from(many, reach), ROWS[many - 1], (many, reach))
                self.assertEqual(len(all_words(many, reach)), WORDS[many - 1], (many, reach))

    def test_a_reach_less_lets_fewer(self):
        for many in range(3, 8):
            self.assertLess(how_many(many, many - 3), WORDS[many - 1])
            self.assertLess(rows_from(many, many - 3), ROWS[many - 1])


class AllWords(unittest.TestCase):
    def test_against_every_tuple_of_marks(self):
        for many in range(1, 8):
            tuples = list(itertools.product("dotu", repeat=many))
            reaches = range(8)
            wanted = {reach: tuple(word for word in tuples if plainly_word(reach, word)) for reach in reaches}
            for reach in reaches:
                told = all_words(many, reach)
                self.assertTrue(is_plain(told))
                self.assertEqual(told, wanted[reach], (many, reach))
                self.assertEqual(list(told), sorted(set(told)))
                self.assertEqual(all_words(many, reach), told)
                self.assertTrue(all(is_word(reach, word) for word in told))

    def test_by_hand(self):
        self.assertEqual(all_words(1, 0), (("d",), ("o",)))
        self.assertEqual(all_words(2, 0), (("d", "d"), ("d", "o"), ("o", "d"), ("o", "o"), ("t", "u")))


class Counts(unittest.TestCase):
    def test_against_all_words_and_the_rows_behind(self):
        for many in range(1, 8):
            start = row_of(many)
            for reach in range(8):
                words = all_words(many, reach)
                self.assertEqual(how_many(many, reach), len(words))
                rows = {row_behind(start, sheet_by(start, word)) for word in words}
                self.assertEqual(rows_from(many, reach), len(rows))

    def test_against_the_sound_sheets(self):
        for many in range(1, 7):
            for reach in range(many):
                sound = sound_sheets(row_of(many), reach)
                self.assertEqual(how_many(many, reach), len(sound))
                self.assertEqual(rows_from(many, reach), len(set(sound.values())))

    def test_each_count_by_each_reach(self):
        for many in range(1, 25):
            for reach in range(8):
                for ask, singles in ((how_many, 2), (rows_from, 1)):
                    told = ask(many, reach)
                    self.assertIs(type(told), int)
                    self.assertEqual(told, counted(many, reach, singles), (many, reach))
                    self.assertEqual(ask(many, reach), told)


if __name__ == "__main__":
    unittest.main()
