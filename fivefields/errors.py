"""The refusals: each one a class of its own, straight under FieldError."""


class FieldError(ValueError):
    """Any refusal."""


class NoDay(FieldError):
    """What was handed in is no date."""


class NoMoment(FieldError):
    """What was handed in tells no moment."""


class NoField(FieldError):
    """What was handed in is no text of a field; at is the place of the wrong item."""

    def __init__(self, at):
        self.at = at


class NoRow(FieldError):
    """What was handed in is no text of a row; place is that of the wrong field."""

    def __init__(self, place):
        self.place = place


class NoBook(FieldError):
    """What was handed in makes no book."""


class NoClock(FieldError):
    """What was handed in makes no clock."""


class NoName(FieldError):
    """No book is kept by the name."""

    def __init__(self, name):
        self.name = name


class NoWord(FieldError):
    """What was handed in is no row that a desk knows."""
