"""Whole numbers."""


def is_whole(thing):
    """Whether a thing is a whole number: an int that is no truth."""
    return isinstance(thing, int) and not isinstance(thing, bool)
