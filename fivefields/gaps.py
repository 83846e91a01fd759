"""Gaps: the longest and the shortest way from one moment of a book to the next one."""

from fivefields.counts import ROUND
from fivefields.leaps import minutes_on
from fivefields.moments import DAY_MINUTES
from fivefields.months import months_of_round
from fivefields.ranges import lowest
from fivefields.sheets import final_to


def least_reach(mask, enough):
    """The tuple (reach, filled): the least reach that is enough, and the mask filled with one less.

    A mask is filled with a reach by so many numbers from each of its own on, itself the first of them. What is
    enough must stay so with a greater reach, and must come at last.
    """
    # Each fill reaches twice as far as the one ahead of it, so that few steps are needed.
    fills = [mask]
    while not enough(fills[-1]):
        fills.append(fills[-1] | (fills[-1] << (1 << (len(fills) - 1))))
    filled = 0
    reach = 0
    for step in range(len(fills) - 2, -1, -1):
        wider = filled | (fills[step] << reach)
        if not enough(wider):
            filled = wider
            reach = reach + (1 << step)
    return (reach + 1, filled)


def widest(minutes):
    """The longest gap between the minutes of a mask of two at least, as a tuple (length, its first minute)."""
    span = (1 << minutes.bit_length()) - (1 << lowest(minutes))
    found = least_reach(minutes, lambda fill: span & ~fill == 0)
    # One less leaves the last minute of the gap open.
    return (found[0], lowest(span & ~found[1]) - found[0] + 1)


def closest(minutes):
    """The shortest gap between the minutes of a mask of two at least, as a tuple (length, its first minute)."""
    length = least_reach(minutes, lambda fill: minutes & (fill << 1) != 0)[0]
    return (length, lowest(minutes & (minutes >> length)))


def page_of_gaps(book, kind, within):
    """The tuple (first, last, gap) of a kind: the first and the last minute of a book in its month, and a gap between.

    None where there is no such minute; the gap is what within tells of the minutes, None where there is just one.
    """
    minutes = minutes_on(book.on_days(kind))
    if minutes == 0:
        return None
    first = lowest(minutes)
    last = minutes.bit_length() - 1
    return (first, last, None if first == last else within(minutes))


def gaps_of(book, within):
    """Gaps of a book, tuples (length, moment): all over the ends of months, and of each kind of month one within."""
    gaps = []
    pages = {}
    last = final_to(book, -1)
    for day, kind in months_of_round():
        start = DAY_MINUTES * day
        is_new = kind not in pages
        if is_new:
            pages[kind] = page_of_gaps(book, kind, within)
        page = pages[kind]
        if page is not None:
            # The first gap of a round may begin ahead of it; it comes again at its end.
            gaps.append((start + page[0] - last, last % ROUND))
            last = start + page[1]
            if is_new and page[2] is not None:
                gaps.append((page[2][0], start + page[2][1]))
    return gaps


def greatest_gap(book):
    """The tuple (length, moment) of a longest gap of a book, None where it never holds."""
    return max(gaps_of(book, widest), default=None)


def least_gap(book):
    """The tuple (length, moment) of a shortest gap of a book, None where it never holds."""
    return min(gaps_of(book, closest), default=None)
