"""[0.2], [0.5], [8.4] to [8.8]: what a clock reads, and what rings on it."""

import random
import unittest

from fivefields.books import Book, Joined, Less, Met, Of, Turned
from fivefields.clocks import Clock, Shifted
from fivefields.counts import count
from fivefields.moments import read_moment, show_moment
from fivefields.rings import next_ring, readings, ring_of, rings_at
from fivefields.rows import read_row
from fivefields.sheets import first_from, sheet_of

ROUND = 210379680
FAR = (0, -ROUND, 10 ** 59 // ROUND * ROUND, -10 ** 59 // ROUND * ROUND)


def of(text):
    return Of(read_row(text))


def made(puts):
    return Shifted([(read_row(text), offset) for text, offset in puts])


SUMMER = made((("0 1 * 3 0L", 60), ("0 1 * 10 0L", 0)))
# Put by 1,440 and 1,439 minutes, one behind the other, as near as they may stand.
WILD = made((("0 0 1 * *", 720), ("0 0 4 * *", -720), ("0 0 7 * *", 720), ("0 0 10 * *", -719)))
STAIRS = made((("0 12 10 * *", -720), ("0 12 13 * *", 0), ("0 12 16 * *", 720), ("0 12 20 * *", 10)))
SMALL = made((("0 0 1 * *", 1), ("0 0 8 * *", 0), ("0 0 15 * *", -1), ("0 0 22 * *", -1)))
SELDOM = made((("5 8 * 2 4#5", 90), ("0 0 1 1 *", -30)))
ALONE = made((("17 3 * * 1", -45),))
CLOCKS = (SUMMER, WILD, STAIRS, SMALL, SELDOM, ALONE, Clock(0), Clock(720), Clock(-720), Clock(7))

ALL = Turned(Book())
SEVENTHS = of("*/7 * * * *")
NOON = of("0 12 * * *")
NEVER = (Book(), of("0 0 30 2 *"), Less(NOON, NOON))
BOOKS = (ALL, SEVENTHS, of("0 */5 * * *"), Joined([of("59 23 * * *"), of("0 0 * * *")]), Less(ALL, of("* 0-11 * * *")))


def put_moments(clock, begin, end):
    """The moments of all puts between two moments, one behind the other."""
    found = []
    put = clock.put_at(end)
    while put is not None and put[0] >= begin:
        found.append(put[0])
        put = clock.put_at(put[0] - 1)
    return found


def edges(clock, chance):
    """Moments about some puts and others, below 0 and far away, too."""
    found = []
    for far in FAR:
        begin = far + chance.randrange(ROUND)
        for put in chance.sample(put_moments(clock, begin, begin + 2 * 525600), 1) if clock.put_at(0) else []:
            found += [put + step for step in (-1441, -721, -60, -1, 0, 1, 30, 59, 60, 720, 1439, 1440, 1441)]
        found += [begin, far, far - 1]
    return found


class Walk:
    """What a clock reads minute by minute about a moment, and its tops."""

    def __init__(self, clock, moment, back, ahead):
        self.begin = moment - back
        self.read = [clock.local(self.begin + step) for step in range(back + ahead)]
        self.tops = []
        top = self.read[0]
        for local in self.read:
            top = max(top, local)
            self.tops.append(top)

    def top(self, true):
        return self.tops[true - self.begin]

    def readings(self, local):
        return [self.begin + step for step, read in enumerate(self.read) if read == local]

    def ring_of(self, local):
        return min(self.begin + step for step, read in enumerate(self.read) if read >= local)


class Readings(unittest.TestCase):
    def test_against_a_walk(self):
        chance = random.Random(84)
        for clock in CLOCKS:
            for local in edges(clock, chance):
                told = readings(clock, local)
                self.assertIs(type(told), list)
                self.assertEqual(told, Walk(clock, local, 800, 800).readings(local))

    def test_none_one_and_two(self):
        spring, autumn = read_moment("2024-03-31 01:00"), read_moment("2024-10-27 01:00")
        for far in FAR:
            # Left out are the local moments from 1:00 to 1:59, twice come those from 1:00 to 1:59.
            for step, told in ((-1, [-1]), (0, []), (59, []), (60, [0]), (61, [1])):
                self.assertEqual(readings(SUMMER, spring + far + step), [spring + far + true for true in told])
            for step, told in ((-1, [-61]), (0, [-60, 0]), (30, [-30, 30]), (59, [-1, 59]), (60, [60])):
                self.assertEqual(readings(SUMMER, autumn + far + step), [autumn + far + true for true in told])

    def test_both_ends_of_the_greatest_puts(self):
        forward, back = read_moment("2024-05-07 00:00"), read_moment("2024-05-04 00:00")
        for far in FAR:
            # From -720 to 720, and from 720 to -720.
            for step, told in ((-721, [-1]), (-720, []), (0, []), (719, []), (720, [0]), (721, [1])):
                self.assertEqual(readings(WILD, forward + far + step), [forward + far + true for true in told])
            for step, told in ((-721, [-1441]), (-720, [-1440, 0]), (0, [-720, 720]), (719, [-1, 1439]), (720, [1440])):
                self.assertEqual(readings(WILD, back + far + step), [back + far + true for true in told])

    def test_one_offset(self):
        for base in (0, 5, 720, -720):
            for local in (0, -1, 10 ** 60, -10 ** 60):
                self.assertEqual(readings(Clock(base), local), [local - base])
                self.assertEqual(ring_of(Clock(base), local), local - base)

    def test_each_true_moment_is_a_reading(self):
        chance = random.Random(841)
        for clock in CLOCKS:
            for true in edges(clock, chance):
                self.assertIn(true, readings(clock, clock.local(true)))


class Rings(unittest.TestCase):
    def test_ring_of_against_a_walk(self):
        chance = random.Random(85)
        for clock in CLOCKS:
            for local in edges(clock, chance):
                told = ring_of(clock, local)
                self.assertIs(type(told), int)
                self.assertEqual(told, Walk(clock, local, 800, 800).ring_of(local))

    def test_ring_of_by_its_readings(self):
        chance = random.Random(851)
        for clock in CLOCKS:
            for local in edges(clock, chance):
                told = readings(clock, local)
                if told:
                    self.assertEqual(ring_of(clock, local), told[0])
                else:
                    self.assertEqual(clock.put_at(ring_of(clock, local))[0], ring_of(clock, local))

    def test_rings_at_against_tops(self):
        chance = random.Random(86)
        for clock in CLOCKS:
            for true in edges(clock, chance):
                walk = Walk(clock, true, 3000, 2)
                moments = range(walk.top(true - 1) + 1, walk.top(true) + 1)
                for book in (ALL, SEVENTHS, NOON):
                    told = rings_at(clock, book, true)
                    self.assertIs(type(told), list)
                    self.assertEqual(told, [moment for moment in moments if book.holds(moment)])
                for book in NEVER:
                    self.assertEqual(rings_at(clock, book, true), [])

    def test_several_at_a_put_forward(self):
        for clock, text, length in ((SUMMER, "2024-03-31 01:00", 60), (WILD, "2024-05-07 00:00", 1440),
                                    (WILD, "2024-05-01 00:00", 1439), (STAIRS, "2024-05-16 12:00", 720)):
            for far in FAR:
                put = read_moment(text) + far
                last = clock.local(put)
                self.assertEqual(rings_at(clock, ALL, put), list(range(last - length, last + 1)))
                self.assertEqual(rings_at(clock, ALL, put - 1), [last - length - 1])
                self.assertEqual(rings_at(clock, ALL, put + 1), [last + 1])

    def test_nothing_until_the_clock_has_caught_up(self):
        for clock, text, length in ((SUMMER, "2024-10-27 01:00", 60), (WILD, "2024-05-04 00:00", 1440),
                                    (WILD, "2024-05-10 00:00", 1439), (STAIRS, "2024-05-20 12:00", 710),
                                    (STAIRS, "2024-05-10 12:00", 730), (SMALL, "2024-05-08 00:00", 1)):
            for far in FAR:
                put = read_moment(text) + far
                top = clock.local(put - 1)
                self.assertEqual(rings_at(clock, ALL, put - 1), [top])
                for step in (0, 1, length // 2, length - 1):
                    if step < length:
                        self.assertEqual(rings_at(clock, ALL, put + step), [])
                        self.assertEqual(next_ring(clock, ALL, put + step), put + length)
                self.assertEqual(rings_at(clock, ALL, put + length), [top + 1])

    def test_told_lists_are_the_askers_own(self):
        put = read_moment("2024-03-31 01:00")
        rings_at(SUMMER, ALL, put).clear()
        readings(SUMMER, put + 60).append(7)
        self.assertEqual(len(rings_at(SUMMER, ALL, put)), 61)
        self.assertEqual(readings(SUMMER, put + 60), [put])

    def test_books_stay_as_they_are(self):
        books = [NOON, SEVENTHS]
        book = Joined(books)
        sheet = sheet_of(book)
        told = (next_ring(WILD, book, 5), rings_at(WILD, book, 7))
        books.append(ALL)
        self.assertEqual((next_ring(WILD, book, 5), rings_at(WILD, book, 7)), told)
        self.assertEqual(sheet_of(book), sheet)


class NextRing(unittest.TestCase):
    def test_against_a_walk(self):
        chance = random.Random(861)
        for clock in CLOCKS:
            for book in BOOKS:
                for true in chance.sample(edges(clock, chance), 8):
                    walk = Walk(clock, true, 3000, 4500)
                    at = true
                    while not any(book.holds(moment) for moment in range(walk.top(at - 1) + 1, walk.top(at) + 1)):
                        at += 1
                    self.assertEqual(next_ring(clock, book, true), at)

    def test_the_moment_itself(self):
        for clock in CLOCKS:
            for far in FAR:
                ring = ring_of(clock, read_moment("2024-06-05 12:00") + far)
                self.assertEqual(next_ring(clock, NOON, ring), ring)
                self.assertGreater(next_ring(clock, NOON, ring + 1), ring)

    def test_a_book_that_never_holds(self):
        for clock in CLOCKS:
            for book in NEVER:
                for true in (0, -1, 10 ** 59, -10 ** 59, 10 ** 60, -10 ** 60):
                    self.assertIsNone(next_ring(clock, book, true))

    def test_forty_years_between(self):
        book = Met([of("5 8 29 2 *"), of("* * * * 4")])
        for clock, offset in ((SUMMER, 0), (Clock(60), 60), (Clock(-720), -720), (ALONE, -45)):
            for far in FAR:
                first = read_moment("1872-02-29 08:05") + far - offset
                second = read_moment("1912-02-29 08:05") + far - offset
                self.assertEqual(next_ring(clock, book, first), first)
                self.assertEqual(next_ring(clock, book, first + 1), second)
                self.assertEqual(next_ring(clock, book, second), second)
        for far in FAR:
            # The clock is put from -30 to 90 at 8:05: the moment 8:05 is left out and rings at the put.
            first, second = read_moment("1872-02-29 08:05") + far, read_moment("1912-02-29 08:05") + far
            self.assertEqual(next_ring(SELDOM, book, first), first)
            self.assertEqual(next_ring(SELDOM, book, first + 1), second)
            self.assertEqual(rings_at(SELDOM, book, second), [second])


class EachJustOnce(unittest.TestCase):
    def test_counts(self):
        chance = random.Random(87)
        for clock in CLOCKS:
            for book in (ALL, SEVENTHS, of("0 */5 * * *")):
                for true in chance.sample(edges(clock, chance), 2):
                    length = chance.choice((0, 1, 60, 1500, 3000))
                    walk = Walk(clock, true, 3000, length + 1)
                    rung = []
                    for step in range(length):
                        rung += rings_at(clock, book, true + step)
                    begin, end = walk.top(true - 1) + 1, walk.top(true + length - 1) + 1
                    self.assertEqual(rung, [moment for moment in range(begin, end) if book.holds(moment)])
                    self.assertEqual(len(rung), count(book, begin, end))

    def test_each_moment_rings_where_it_is_told(self):
        chance = random.Random(871)
        for clock in CLOCKS:
            for moment in chance.sample(edges(clock, chance), 6):
                for book in (ALL, SEVENTHS):
                    moment = first_from(book, moment)
                    ring = ring_of(clock, moment)
                    self.assertIn(moment, rings_at(clock, book, ring))
                    self.assertNotIn(moment, rings_at(clock, book, ring - 1))
                    self.assertNotIn(moment, rings_at(clock, book, ring + 1))
                    for reading in readings(clock, moment)[1:]:
                        self.assertNotIn(moment, rings_at(clock, book, reading))

    def test_none_rings_earlier_than_an_earlier_one(self):
        for clock in CLOCKS:
            for text in ("2024-05-01 00:00", "2024-05-04 00:00", "2024-05-07 00:00", "2024-05-16 12:00",
                         "2024-10-27 01:00"):
                rings = [ring_of(clock, read_moment(text) + step) for step in range(-1500, 1500)]
                self.assertEqual(rings, sorted(rings))

    def test_the_same_order_on_two_clocks(self):
        begin, end = read_moment("2024-05-01 00:00"), read_moment("2024-05-12 00:00")
        orders = []
        for clock in (WILD, STAIRS, SMALL, Clock(0), Clock(-720)):
            rung = []
            at = next_ring(clock, SEVENTHS, begin - 2000)
            while at < end + 2000:
                rung += rings_at(clock, SEVENTHS, at)
                at = next_ring(clock, SEVENTHS, at + 1)
            orders.append([moment for moment in rung if begin <= moment < end])
        self.assertEqual(orders[0], [moment for moment in range(begin, end) if SEVENTHS.holds(moment)])
        for order in orders:
            self.assertEqual(order, orders[0])


class Example(unittest.TestCase):
    def test_spring(self):
        for year, day in ((2024, "31"), (2025, "30"), (2026, "29")):
            put = read_moment(f"{year}-03-{day} 01:00")
            self.assertEqual(show_moment(SUMMER.local(put - 1)), f"{year}-03-{day} 00:59")
            self.assertEqual(show_moment(SUMMER.local(put)), f"{year}-03-{day} 02:00")
            half = read_moment(f"{year}-03-{day} 01:30")
            self.assertEqual(ring_of(SUMMER, half), put)
            self.assertEqual(rings_at(SUMMER, of("30 1 * * *"), put), [half])
            self.assertEqual(rings_at(SUMMER, of("*/30 * * * *"), put), [put, half, put + 60])
            self.assertEqual(next_ring(SUMMER, of("30 1 * * *"), put - 60), put)

    def test_autumn(self):
        for year, day in ((2024, "27"), (2025, "26"), (2026, "25")):
            put = read_moment(f"{year}-10-{day} 01:00")
            self.assertEqual(show_moment(SUMMER.local(put - 1)), f"{year}-10-{day} 01:59")
            self.assertEqual(show_moment(SUMMER.local(put)), f"{year}-10-{day} 01:00")
            half = read_moment(f"{year}-10-{day} 01:30")
            self.assertEqual(ring_of(SUMMER, half), half - 60)
            self.assertEqual(rings_at(SUMMER, of("30 1 * * *"), half - 60), [half])
            self.assertEqual(SUMMER.local(half), half)
            self.assertEqual(rings_at(SUMMER, of("30 1 * * *"), half), [])
            self.assertEqual(rings_at(SUMMER, ALL, half), [])
            self.assertEqual(next_ring(SUMMER, of("30 1 * * *"), half - 59), half + 1440)


if __name__ == "__main__":
    unittest.main()
