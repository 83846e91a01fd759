"""Leaps: the next moment of a row and the last one, with the paper of what is passed by."""

from fivefields.days import date_of, day_of
from fivefields.moments import DAY_MINUTES
from fivefields.months import KINDS, kind_of, month_before, next_month
from fivefields.papers import paper_of
from fivefields.ranges import lowest

# The months of a year and of forty more on one side: beyond its own month every kind comes among them.
MOST_MONTHS = 492
MOST_MONTH_MINUTES = 44640


def minutes_on(days):
    """The mask of the minutes of a month, counted from its first one on, by the times of each of its days."""
    minutes = 0
    for place, times in enumerate(days):
        minutes = minutes | (times << (DAY_MINUTES * place))
    return minutes


def minutes_by(known, on_days, kind):
    """The mask of the minutes of a kind of month, asked of on_days once and then kept in a dict."""
    if kind not in known:
        known[kind] = minutes_on(on_days(kind))
    return known[kind]


def month_of(moment):
    """The month of a moment, as a tuple (year, month)."""
    date = date_of(moment // DAY_MINUTES)
    return (date[0], date[1])


def first_at(on_days, moment):
    """The first moment from that one on that has its time in on_days(kind), a list of times; None where none has."""
    month = month_of(moment)
    known = {}
    for turn in range(MOST_MONTHS):
        start = DAY_MINUTES * day_of(month[0], month[1], 1)
        passed = max(moment - start, 0)
        rest = minutes_by(known, on_days, kind_of(month[0], month[1])) >> passed
        if rest != 0:
            return start + passed + lowest(rest)
        month = next_month(month[0], month[1])
    return None


def final_at(on_days, moment):
    """The last moment up to that one that has its time in on_days(kind), a list of times; None where none has."""
    month = month_of(moment)
    known = {}
    for turn in range(MOST_MONTHS):
        start = DAY_MINUTES * day_of(month[0], month[1], 1)
        latest = min(moment - start, MOST_MONTH_MINUTES)
        rest = minutes_by(known, on_days, kind_of(month[0], month[1])) & ((2 << latest) - 1)
        if rest != 0:
            return start + rest.bit_length() - 1
        month = month_before(month[0], month[1])
    return None


def never(row):
    """Whether a row holds at no moment whatever."""
    return all([row.days_in(kind) == 0 for kind in range(KINDS)])


def next_from(row, moment):
    """The tuple (found, paper) of the first moment of a row from that one on."""
    found = first_at(lambda kind: row.on_days(kind), moment)
    if found is None:
        return (None, [])
    return (found, paper_of(row, moment, found - 1))


def last_to(row, moment):
    """The tuple (found, paper) of the last moment of a row up to that one."""
    found = final_at(lambda kind: row.on_days(kind), moment)
    if found is None:
        return (None, [])
    return (found, paper_of(row, found + 1, moment))
