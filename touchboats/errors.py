"""The refusals, each straight under BoatError."""


class BoatError(ValueError):
    """What all refusals have in common."""


class BadTell(BoatError):
    """What is told to a book is otherwise than a book takes."""


class Told(BoatError):
    """That day or turn is told and not taken back."""


class NotTold(BoatError):
    """That day or turn is not told, so it can't be taken back."""


class NoText(BoatError):
    """The text is not so written."""


class NoLine(BoatError):
    """The line is none that a desk knows."""
