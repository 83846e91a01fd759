"""Clocks: what is read at true moments, by an offset that rows may put forward and back."""

from fivefields.counts import ROUND
from fivefields.errors import NoClock
from fivefields.fields import numbers_in
from fivefields.leaps import never
from fivefields.moments import DAY_MINUTES
from fivefields.months import KINDS, months_of_round
from fivefields.ranges import lowest
from fivefields.rows import Row
from fivefields.wholes import is_whole

MOST_OFFSET = 720
MOST_PUTS = 4
LEAST_BETWEEN = 4320


def checked_offset(offset):
    """An offset; refused with NoClock whatever is none."""
    if not is_whole(offset) or not -MOST_OFFSET <= offset <= MOST_OFFSET:
        raise NoClock("no offset")
    return offset


def checked_put(put):
    """A tuple of a row and an offset; refused with NoClock whatever is no such one, or has a row that never holds."""
    if not isinstance(put, tuple) or len(put) != 2:
        raise NoClock("no tuple of two")
    if not isinstance(put[0], Row):
        raise NoClock("no row")
    if never(put[0]):
        raise NoClock("a row that never holds")
    times = put[0].times()
    if times & (times - 1) != 0:
        raise NoClock("two puts on one day")
    return (put[0], checked_offset(put[1]))


def checked_puts(puts):
    """A list of one to four puts as a tuple; refused with NoClock whatever is none."""
    if not isinstance(puts, list) or not 1 <= len(puts) <= MOST_PUTS:
        raise NoClock("no list of one to four puts")
    return tuple([checked_put(put) for put in puts])


def check_between(table):
    """Refuses with NoClock a rising list of tuples (moment, offset) of which two lie too near to one another."""
    for earlier, later in zip(table, table[1:]):
        if later[0] - earlier[0] < LEAST_BETWEEN:
            raise NoClock("two puts too near to one another")


def puts_in(puts, kind):
    """The puts in a month of a kind, as tuples (minute of the month, offset), rising."""
    found = []
    for row, offset in puts:
        time = lowest(row.times())
        for day in numbers_in(row.days_in(kind)):
            found.append((DAY_MINUTES * (day - 1) + time, offset))
    return sorted(found)


def puts_of_round(puts):
    """All puts from moment 0 to ROUND - 1, as tuples (moment, offset), rising; refused with NoClock if too near."""
    pages = [puts_in(puts, kind) for kind in range(KINDS)]
    # Each kind of month by itself at first, so that a round is never drawn of months full of puts.
    for page in pages:
        check_between(page)
    table = []
    for day, kind in months_of_round():
        for minute, offset in pages[kind]:
            table.append((DAY_MINUTES * day + minute, offset))
    check_between(table + [(table[0][0] + ROUND, table[0][1])])
    return table


def place_up_to(table, moment):
    """The place of the last tuple of a rising list whose moment is not above that one, -1 where there is none."""
    low = 0
    high = len(table)
    while low < high:
        middle = (low + high) // 2
        if table[middle][0] <= moment:
            low = middle + 1
        else:
            high = middle
    return low - 1


class Clock:
    """A clock with one offset at all moments."""

    def __init__(self, base=0):
        self.base = checked_offset(base)

    def offset_at(self, true):
        return self.base

    def local(self, true):
        """What the clock reads at a true moment."""
        return true + self.base

    def put_at(self, true):
        return None


class Shifted(Clock):
    """A clock that is put to an offset wherever a row holds."""

    def __init__(self, puts):
        self.puts = checked_puts(puts)
        self.table = puts_of_round(self.puts)

    def offset_at(self, true):
        return self.put_at(true)[2]

    def local(self, true):
        return true + self.offset_at(true)

    def put_at(self, true):
        """The last put up to a true moment, as a tuple (moment, offset ahead of it, offset behind it)."""
        passed = true % ROUND
        place = place_up_to(self.table, passed)
        # Ahead of a round's first put comes the last one of the round before: the place -1, counted from the end.
        start = true - passed - (ROUND if place < 0 else 0)
        put = self.table[place]
        return (start + put[0], self.table[place - 1][1], put[1])
