"""All words of so many marks, and how many there are.

A word without "o" is called closed: just these may stand between a "t" and
the "u" that closes it. Each word that isn't empty begins in one way alone:
with a single mark ahead of a shorter word, or with a "t", a closed word of at
most reach marks and the "u" that closes the "t", ahead of a shorter word.
"""


def longer(singles, closed, shorter, reach):
    """The words one mark longer than the last of shorter.

    singles are the marks that may stand by themselves; closed and shorter have
    a list of words for each count of marks from 0 on.
    """
    many = len(shorter)
    words = [(mark,) + word for mark in singles for word in shorter[many - 1]]
    for inner in range(min(reach, many - 2) + 1):
        words += [
            ("t",) + within + ("u",) + word
            for within in closed[inner]
            for word in shorter[many - 2 - inner]
        ]
    return words


def all_words(many, reach):
    """The rising tuple of all words of so many marks."""
    closed = [[()]]
    words = [[()]]
    for length in range(many):
        closed.append(longer(("d",), closed, closed, reach))
        words.append(longer(("d", "o"), closed, words, reach))
    return tuple(sorted(words[many]))


def longer_count(singles, closed, shorter, reach):
    """How many words longer makes; singles, closed and shorter are counts here."""
    many = len(shorter)
    count = singles * shorter[many - 1]
    for inner in range(min(reach, many - 2) + 1):
        count += closed[inner] * shorter[many - 2 - inner]
    return count


def closed_counts(many, reach):
    """How many closed words there are of each count of marks from 0 to many."""
    closed = [1]
    for length in range(many):
        closed.append(longer_count(1, closed, closed, reach))
    return closed


def how_many(many, reach):
    """How many words of so many marks there are."""
    closed = closed_counts(many, reach)
    counts = [1]
    for length in range(many):
        counts.append(longer_count(2, closed, counts, reach))
    return counts[many]


def rows_from(many, reach):
    """How many unlike rows are behind the words of so many marks."""
    # The row tells the touches and nothing of the drops: with each "o" made a
    # "d" a word leads to the same row, and unlike closed words to unlike rows.
    return closed_counts(many, reach)[many]
