"""Rings: at which true moments a clock reads local ones, and when those of a book ring."""

from fivefields.clocks import MOST_OFFSET
from fivefields.sheets import first_from


def top_at(clock, true):
    """The greatest that a clock reads up to a true moment, itself included."""
    put = clock.put_at(true)
    if put is None:
        return clock.local(true)
    # Puts lie so far apart that what was read ahead of earlier ones is passed by now.
    return max(true + put[2], put[0] - 1 + put[1])


def readings(clock, local):
    """All true moments at which a clock reads a local one, rising."""
    # A true moment lies within the greatest offset of its local one, and there is one put at most between.
    likely = [local - clock.offset_at(local - MOST_OFFSET), local - clock.offset_at(local + MOST_OFFSET)]
    return [true for true in sorted(set(likely)) if clock.local(true) == local]


def ring_of(clock, local):
    """The first true moment at which a clock reads a local one or a later one."""
    put = clock.put_at(local + MOST_OFFSET)
    if put is None:
        return local - clock.offset_at(local)
    early = local - put[1]
    if early < put[0]:
        return early
    return max(put[0], local - put[2])


def rings_at(clock, book, true):
    """The moments of a book that ring at a true moment, rising."""
    return [moment for moment in range(top_at(clock, true - 1) + 1, top_at(clock, true) + 1) if book.holds(moment)]


def next_ring(clock, book, true):
    """The first true moment from that one on at which a moment of a book rings, None where the book never holds."""
    moment = first_from(book, top_at(clock, true - 1) + 1)
    if moment is None:
        return None
    return ring_of(clock, moment)
