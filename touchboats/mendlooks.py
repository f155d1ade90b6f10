"""A look at a torn sheet made whole, whoever made it."""

from touchboats.mending import common, fits_torn, row_by, words_that_fit
from touchboats.rows import is_text, is_whole


def has_parts_form(thing):
    """Whether it is a tuple of texts and None, as marks and boats are."""
    if not isinstance(thing, tuple):
        return False
    return all([part is None or isinstance(part, str) for part in thing])


def has_paper_form(kind, place, thing):
    """Whether it is a paper of this kind and place, whatever its two words are."""
    if not isinstance(thing, tuple) or len(thing) != 4:
        return False
    return is_text(thing[0], kind) and is_whole(thing[1], place, place)


def shows_paper(start, reach, torn, kind, place, thing):
    """Whether it is a paper of two words that fit and differ at this place."""
    if not has_paper_form(kind, place, thing):
        return False
    one, other = thing[2:]
    if not fits_torn(start, reach, torn, one) or not fits_torn(start, reach, torn, other):
        return False
    if kind == "mark":
        return one[place] != other[place]
    return row_by(start, one)[place] != row_by(start, other)[place]


def papers_asked(marks, row):
    """The kind and the place of each paper, in their order."""
    asked = [("mark", place) for place, mark in enumerate(marks) if mark is None]
    asked += [("boat", place) for place, boat in enumerate(row) if boat is None]
    return asked


def shows_papers(start, reach, torn, asked, thing):
    """Whether it is a tuple of just the papers that are asked."""
    if not isinstance(thing, tuple) or len(thing) != len(asked):
        return False
    return all([
        shows_paper(start, reach, torn, kind, place, paper)
        for (kind, place), paper in zip(asked, thing)
    ])


def shows_some(start, reach, torn, words, thing):
    """Whether it is what these words, all that fit, agree in, with a paper for each other place."""
    if len(thing) != 4 or not has_parts_form(thing[1]) or not has_parts_form(thing[2]):
        return False
    marks = common(words)
    row = common([row_by(start, word) for word in words])
    if thing[1] != marks or thing[2] != row:
        return False
    return shows_papers(start, reach, torn, papers_asked(marks, row), thing[3])


def shows_mended(start, reach, torn, thing):
    """Whether it is the torn sheet made whole, or that no word fits it."""
    if not isinstance(thing, tuple) or len(thing) == 0:
        return False
    words = words_that_fit(start, reach, torn)
    if not words:
        return len(thing) == 1 and is_text(thing[0], "none")
    return is_text(thing[0], "some") and shows_some(start, reach, torn, words, thing)
