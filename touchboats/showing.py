"""Rows, days and torn sheets as texts."""


def show_row(row):
    """The row as a text."""
    return " ".join(row)


def show_event(event):
    """The event as a text."""
    if event[0] == "drop":
        return event[1] + "!"
    return event[1] + ">" + event[2]


def show_sheet(sheet):
    """The sheet as a text."""
    return " ".join([show_event(event) for event in sheet]) if sheet else "-"


def show_day(day):
    """The day as a text."""
    return " / ".join([show_sheet(sheet) for sheet in day])


def show_parts(parts):
    """What each of these is, told or not, as texts."""
    return ["?" if part is None else part for part in parts]


def show_torn(sheets):
    """The torn sheets of a day as a text."""
    return " / ".join(["".join(show_parts(marks)) + " " + show_row(show_parts(behind)) for marks, behind in sheets])
