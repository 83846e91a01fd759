"""[0.2], [0.5], [7.3], [7.4], [7.5]: how many moments a book has, and which one is the so-many-th."""

import random
import time
import unittest

from fivefields.books import Book, Joined, Less, Met, Of, Turned
from fivefields.counts import ROUND, count, in_round, nth
from fivefields.moments import read_moment
from fivefields.rows import read_row
from fivefields.sheets import final_to, first_from, sheet_of

FAR = (0, -ROUND, 10 ** 59 // ROUND * ROUND, -10 ** 59 // ROUND * ROUND)


def of(text):
    return Of(read_row(text))


ALL = Turned(Book())
WORK = of("*/30 9-17 * * 1-5")
NOON = of("0 12 * * *")
LEAP = of("* * 29 2 *")
SELDOM = Met([of("5 8 29 2 *"), of("* * * * 4")])
NEVER = (Book(), of("0 0 30 2 *"), Less(WORK, WORK), Met([NOON, Turned(NOON)]), Turned(ALL))
OFTEN = (ALL, of("*/7 * * * *"), Turned(WORK), of("0,30 */3 * * *"), Less(of("* * * * 1,3,5,6"), NOON),
         Joined([of("59 23 * * *"), of("0 0 * * *")]), Met([of("*/7 * * * *"), of("*/5 * * * *")]),
         Less(of("*/2 * * * *"), LEAP), Joined([WORK, of("17 3 L,1 * *"), LEAP]))
BOOKS = OFTEN + (WORK, NOON, LEAP, SELDOM, of("0 0 L,LW * 1#5"), of("0 0 1 1 *"), of("* * * 12 *")) + NEVER[:2]


def edges(chance):
    """Moments about the ends of years and months, and others."""
    found = [read_moment(text) for text in ("2024-01-01 00:00", "2023-12-31 23:59", "2024-02-29 12:00", "0-01-01 00:00",
                                            "-1-12-31 23:59", "1900-03-01 00:00", "2000-02-29 23:59", "-4-02-29 00:01")]
    return found + [chance.randrange(-ROUND, 2 * ROUND) for turn in range(4)]


def walked(book, begin, end):
    return len([moment for moment in range(begin, end) if book.holds(moment)])


def greatest():
    """A book that counts 24."""
    rows = [of(f"{7 * k % 60}-59/7 {k % 24} {k + 1},L,{k + 2}W * {k % 7}#2,{(k + 3) % 7}L") for k in range(18)]
    return Joined([Joined(rows[:7]), Less(Joined(rows[7:13]), rows[13]), Met([Turned(rows[14])] + rows[15:18])])


class Count(unittest.TestCase):
    def test_against_a_walk(self):
        chance = random.Random(73)
        for book in BOOKS:
            for far in FAR:
                begin = far + chance.choice(edges(chance))
                end = begin + chance.randrange(4000)
                self.assertEqual(count(book, begin, end), walked(book, begin, end))

    def test_over_one_minute(self):
        chance = random.Random(731)
        for book in BOOKS:
            for far in FAR:
                for edge in edges(chance):
                    moment = first_from(book, far + edge)
                    moment = far + edge if moment is None else moment
                    for at in (moment - 1, moment, moment + 1, far + edge):
                        told = count(book, at, at + 1)
                        self.assertIs(type(told), int)
                        self.assertEqual(told, 1 if book.holds(at) else 0)

    def test_end_at_begin_and_below_it(self):
        for book in (ALL, WORK, SELDOM, Book()):
            for moment in (0, 7, -7, 10 ** 59, -10 ** 59):
                for back in (0, 1, 2, 1440, ROUND, ROUND + 1, 10 ** 59, 10 ** 60):
                    told = count(book, moment, moment - back)
                    self.assertIs(type(told), int)
                    self.assertEqual(told, 0)

    def test_stretches_add_up(self):
        chance = random.Random(732)
        reaches = (0, 1, 59, 1440, 44640, 525600, 3 * 10 ** 6, ROUND - 1, ROUND, ROUND + 1, 10 ** 12, 10 ** 59)
        for book in BOOKS:
            for far in FAR:
                ends = [far + chance.choice(edges(chance))]
                for turn in range(4):
                    ends.append(ends[-1] + chance.choice(reaches))
                parts = [count(book, begin, end) for begin, end in zip(ends, ends[1:])]
                self.assertEqual(count(book, ends[0], ends[-1]), sum(parts))

    def test_never_and_always(self):
        for begin, end in ((0, 1), (-5, 7), (-10 ** 59, 10 ** 59), (-10 ** 60, 10 ** 60), (10 ** 60 - 9, 10 ** 60),
                           (-10 ** 60, 9 - 10 ** 60), (-ROUND, 0), (0, ROUND), (17, 5 * 10 ** 9)):
            for book in NEVER:
                self.assertEqual(count(book, begin, end), 0)
            for book in (ALL, of("* * * * *"), Joined([WORK, Turned(WORK)])):
                self.assertEqual(count(book, begin, end), end - begin)

    def test_far_apart(self):
        for book in BOOKS:
            for begin, rest in ((-10 ** 59, 0), (-5 * 10 ** 59, 12345), (-10 ** 60, 999999), (12, 1)):
                rounds = 10 ** 60 // ROUND
                told = count(book, begin, begin + rounds * ROUND + rest)
                self.assertEqual(told, rounds * in_round(book) + count(book, begin, begin + rest))
            self.assertEqual(count(book, -10 ** 60, 10 ** 60) + count(Turned(book), -10 ** 60, 10 ** 60), 2 * 10 ** 60)

    def test_days_by_a_reckoning(self):
        for first, last in ((0, 10 ** 6), (-10 ** 55, 10 ** 55 + 3), (-10, -3), (146096, 146098)):
            self.assertEqual(count(NOON, 1440 * first, 1440 * last), last - first)
            self.assertEqual(count(NOON, 1440 * first + 720, 1440 * last + 720), last - first)
            self.assertEqual(count(NOON, 1440 * first + 721, 1440 * last + 720), last - first - 1)
            self.assertEqual(count(NOON, 1440 * first + 720, 1440 * last + 721), last - first + 1)
            weeks = count(of("0 12 * * 3"), 1440 * first, 1440 * (first + 7 * (last - first)))
            self.assertEqual(weeks, last - first)

    def test_hours_of_known_years(self):
        for year, longs in ((2024, 1), (2023, 0), (1900, 0), (2000, 1), (-4, 1), (-100, 0), (10 ** 49, 1)):
            begin, end = read_moment(f"{year}-01-01 00:00"), read_moment(f"{year + 1}-01-01 00:00")
            self.assertEqual(count(ALL, begin, end), 1440 * (365 + longs))
            self.assertEqual(count(LEAP, begin, end), 1440 * longs)
            self.assertEqual(count(of("0 0 31 * *"), begin, end), 7)
            self.assertEqual(count(of("5 */6 1,L * *"), begin, end), 96)

    def test_books_stay_as_they_are(self):
        books = [WORK, SELDOM]
        book = Joined(books)
        sheet = sheet_of(book)
        told = (count(book, 0, 10 ** 9), nth(book, 0, 99), in_round(book))
        books.append(ALL)
        self.assertEqual((count(book, 0, 10 ** 9), nth(book, 0, 99), in_round(book)), told)
        self.assertEqual(sheet_of(book), sheet)


class Nth(unittest.TestCase):
    def test_against_a_walk(self):
        chance = random.Random(74)
        for book in OFTEN:
            for far in FAR:
                moment = far + chance.choice(edges(chance))
                at = moment
                for many in range(20):
                    while not book.holds(at):
                        at += 1
                    self.assertEqual(nth(book, moment, many), at)
                    at += 1

    def test_against_one_behind_the_other(self):
        for book in (WORK, NOON, LEAP, SELDOM, of("0 0 L,LW * 1#5"), of("0 0 1 1 *")):
            for moment in (0, -1, 10 ** 59, -10 ** 59):
                at = moment - 1
                for many in range(12):
                    at = first_from(book, at + 1)
                    self.assertEqual(nth(book, moment, many), at)

    def test_count_up_to_it_is_many(self):
        chance = random.Random(741)
        for book in BOOKS[:-2]:
            for far in FAR:
                for many in (0, 1, 2, 1439, 10 ** 6, in_round(book) - 1, in_round(book), in_round(book) + 1, 10 ** 20,
                             10 ** 59, 10 ** 59 + 1, 10 ** 60):
                    moment = far + chance.choice(edges(chance))
                    told = nth(book, moment, many)
                    self.assertIs(type(told), int)
                    self.assertTrue(book.holds(told))
                    self.assertGreaterEqual(told, moment)
                    self.assertEqual(count(book, moment, told), many)

    def test_the_moment_itself(self):
        for far in FAR:
            moment = far + read_moment("2024-11-18 12:00")
            for book in (WORK, NOON, ALL):
                self.assertEqual(nth(book, moment, 0), moment)
                self.assertEqual(nth(book, moment, 1), first_from(book, moment + 1))
                self.assertEqual(nth(book, moment + 1, 0), first_from(book, moment + 1))

    def test_ends_of_years(self):
        for begin, many, found in (
                ("2023-12-31 23:59", 0, "2023-12-31 23:59"), ("2023-12-31 23:59", 1, "2024-01-01 00:00"),
                ("2024-01-01 00:00", 0, "2024-01-01 00:00"), ("2024-01-01 00:00", 1, "2024-12-31 23:59"),
                ("2024-01-01 00:01", 0, "2024-12-31 23:59"), ("-1-12-31 23:59", 1, "0-01-01 00:00"),
                ("2024-06-01 00:00", 200, "2124-12-31 23:59"), ("1999-12-31 23:59", 801, "2400-01-01 00:00")):
            book = Joined([of("0 0 1 1 *"), of("59 23 L 12 *")])
            self.assertEqual(nth(book, read_moment(begin), many), read_moment(found))

    def test_always(self):
        for moment in (0, -10 ** 59, 10 ** 60, -10 ** 60):
            for many in (0, 1, 1440, ROUND, 10 ** 59, 10 ** 60):
                self.assertEqual(nth(ALL, moment, many), moment + many)

    def test_none_where_the_book_never_holds(self):
        for book in NEVER:
            for moment in (0, -1, 10 ** 59, -10 ** 59):
                for many in (0, 1, 10 ** 59):
                    self.assertIsNone(nth(book, moment, many))


class Round(unittest.TestCase):
    def test_its_length(self):
        self.assertEqual(ROUND, 210379680)
        self.assertIs(type(ROUND), int)
        for year in (0, 1, 2024, -77):
            self.assertEqual(read_moment(f"{year + 400}-03-01 00:00") - read_moment(f"{year}-03-01 00:00"), ROUND)

    def test_known_rounds(self):
        for book, many in (
                (ALL, ROUND), (NOON, 146097), (LEAP, 97 * 1440), (of("0 0 1 1 *"), 400),
                (of("* * * 1 *"), 400 * 31 * 1440),
                (of("0 0 * * 1"), 20871), (of("*/30 9-17 * * 1-5"), 18 * 5 * 20871), (Book(), 0), (of("0 0 30 2 *"), 0),
                (of("0 0 31 * *"), 2800), (of("0 0 * 2 1#5"), 15), (of("0 0 * 2 0#5"), 13)):
            self.assertEqual(in_round(book), many)
            self.assertIs(type(in_round(book)), int)
        # How often the 13th of a month falls on each weekday is well known.
        thirteenths = [in_round(Met([of("0 0 13 * *"), of(f"* * * * {day}")])) for day in range(7)]
        self.assertEqual(thirteenths, [687, 685, 685, 687, 684, 688, 684])

    def test_against_count_from_any_moment(self):
        chance = random.Random(75)
        for book in BOOKS:
            for far in FAR:
                begin = far + chance.choice(edges(chance))
                self.assertEqual(count(book, begin, begin + ROUND), in_round(book))

    def test_books_come_again(self):
        chance = random.Random(751)
        for book in BOOKS[:-2]:
            for far in FAR:
                for edge in edges(chance):
                    moment = far + edge
                    self.assertEqual(book.holds(moment), book.holds(moment + ROUND))
                    self.assertEqual(first_from(book, moment) + ROUND, first_from(book, moment + ROUND))
                    self.assertEqual(final_to(book, moment) - ROUND, final_to(book, moment - ROUND))

    def test_a_book_of_the_greatest_size(self):
        begin = time.perf_counter()
        book = greatest()
        self.assertEqual(book.tally(), 24)
        for far in FAR:
            moment = far + 987654321
            self.assertEqual(count(book, moment, moment + 3000), walked(book, moment, moment + 3000))
            told = nth(book, moment, 10 ** 59)
            self.assertEqual(count(book, moment, told), 10 ** 59)
        self.assertLess(time.perf_counter() - begin, 20)


if __name__ == "__main__":
    unittest.main()
