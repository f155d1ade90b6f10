"""Torn sheets: the words that fit one, and what these agree in."""

from touchboats.marks import is_mark, is_word, sheet_by
from touchboats.races import row_behind
from touchboats.rows import MOST_BOATS, is_boat
from touchboats.wordcounts import all_words

# A division of eight boats and the head of the next one.
MOST_TORN = 9


def is_torn(thing):
    """Whether it is a pair of tuples of one length, of marks or None and of boats or None."""
    if not isinstance(thing, tuple) or len(thing) != 2 or not all([isinstance(part, tuple) for part in thing]):
        return False
    marks, behind = thing
    if not 1 <= len(marks) <= MOST_TORN or len(behind) != len(marks):
        return False
    if not all([mark is None or is_mark(mark) for mark in marks]):
        return False
    return all([boat is None or is_boat(boat) for boat in behind])


def is_torn_day(thing):
    """Whether it is a tuple of 1 to 24 torn sheets."""
    if not isinstance(thing, tuple) or not 1 <= len(thing) <= MOST_BOATS:
        return False
    return all([is_torn(part) for part in thing])


def row_by(start, word):
    """The row behind the sheet whose word it is."""
    return row_behind(start, sheet_by(start, word))


def agrees(torn, whole):
    """Whether the whole tuple has all that the torn one tells, at its place."""
    return all([told is None or told == part for told, part in zip(torn, whole)])


def fits_torn(start, reach, torn, thing):
    """Whether it is a word that fits the torn sheet."""
    if not is_word(reach, thing) or len(thing) != len(start):
        return False
    marks, behind = torn
    return agrees(marks, thing) and agrees(behind, row_by(start, thing))


def words_that_fit(start, reach, torn):
    """All words that fit the torn sheet."""
    return [word for word in all_words(len(start), reach) if fits_torn(start, reach, torn, word)]


def common(tuples):
    """For each place what all these tuples have there, or None where they differ."""
    first = tuples[0]
    return tuple([
        part if all([one[place] == part for one in tuples]) else None
        for place, part in enumerate(first)
    ])


def papers_of(kind, words, tuples):
    """For each place where these tuples, one of each word, differ: two words that show it."""
    papers = []
    for place, part in enumerate(common(tuples)):
        if part is None:
            unlike = [word for word, one in zip(words, tuples) if one[place] != tuples[0][place]]
            papers.append((kind, place, words[0], unlike[0]))
    return papers


def mended(start, reach, torn):
    """What all words that fit agree in, with papers for each place where they differ."""
    words = words_that_fit(start, reach, torn)
    if not words:
        return ("none",)
    rows = [row_by(start, word) for word in words]
    papers = papers_of("mark", words, words) + papers_of("boat", words, rows)
    return ("some", common(words), common(rows), tuple(papers))
