"""Sheets: the times of a book on the days of each kind of month, and its moments from another one on."""

from fivefields.leaps import final_at, first_at
from fivefields.months import KINDS
from fivefields.papers import add_stretch


def page_of(days):
    """The stretches (first, last, times) of a list of times for each day, from day 1 on."""
    stretches = []
    for day, times in enumerate(days, start=1):
        add_stretch(stretches, day, day, times)
    return stretches


def sheet_of(book):
    """The sheet of a book: a list of stretches of days for each kind of month."""
    return [page_of(book.on_days(kind)) for kind in range(KINDS)]


def first_from(book, moment):
    """The first moment of a book from that one on, None where it never holds."""
    return first_at(lambda kind: book.on_days(kind), moment)


def final_to(book, moment):
    """The last moment of a book up to that one, None where it never holds."""
    return final_at(lambda kind: book.on_days(kind), moment)
