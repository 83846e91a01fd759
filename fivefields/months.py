"""The ninety-one kinds of months."""

from fivefields.days import ROUND_YEARS, day_of, is_long, last_of, weekday

KINDS = 91
# The February of a long year has a place of its own, behind December's.
LONG_PLACE = 12
LONG_LAST = 29
SHORT_YEAR = 1


def kind_from(year, month, day):
    """The kind of a year's month whose first day that one is."""
    place = LONG_PLACE if month == 2 and is_long(year) else month - 1
    return 7 * place + weekday(day)


def kind_of(year, month):
    """The kind of a year's month."""
    return kind_from(year, month, day_of(year, month, 1))


def month_at(kind):
    """The tuple (month, last, first) of a kind: the month's number, its days, the weekday of its first day."""
    place = kind // 7
    first = kind % 7
    if place == LONG_PLACE:
        return (2, LONG_LAST, first)
    return (place + 1, last_of(SHORT_YEAR, place + 1), first)


def next_of_kind(kind, year):
    """The least year, from that one on, that has a month of a kind."""
    month = month_at(kind)[0]
    # This ends: each kind comes again within forty years.
    while kind_of(year, month) != kind:
        year = year + 1
    return year


def next_month(year, month):
    """The month behind a month, as a tuple (year, month)."""
    if month == 12:
        return (year + 1, 1)
    return (year, month + 1)


def month_before(year, month):
    """The month ahead of a month, as a tuple (year, month)."""
    if month == 1:
        return (year - 1, 12)
    return (year, month - 1)


def months_of_round():
    """The months of 400 years, from year 0 on, each as a tuple (first day, kind)."""
    found = []
    day = 0
    for year in range(ROUND_YEARS):
        for month in range(1, 13):
            kind = kind_from(year, month, day)
            found.append((day, kind))
            day = day + last_of(year, month)
    return found
