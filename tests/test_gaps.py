"""[0.5], [0.6], [7.6]: the greatest and the least gap of a book."""

import random
import time
import unittest

from fivefields.books import Book, Joined, Less, Met, Of, Turned
from fivefields.days import day_of
from fivefields.gaps import greatest_gap, least_gap
from fivefields.months import kind_of, month_at
from fivefields.rows import read_row
from fivefields.sheets import final_to, first_from, sheet_of

ROUND = 210379680
LONGEST = 14609 * 1440


def of(text):
    return Of(read_row(text))


ALL = Turned(Book())
WORK = of("*/30 9-17 * * 1-5")
NOON = of("0 12 * * *")
LEAP = of("* * 29 2 *")
SELDOM = Met([of("5 8 29 2 *"), of("* * * * 4")])
# Some that hold seldom enough for a walk from moment to moment over a whole round.
SPARSE = (
    SELDOM, of("5 8 29 2 *"), of("0 0 1 1 *"), of("59 23 31 12 *"), of("0 0 * 2 1#5"), of("7 7 L * *"),
    of("0,59 0,23 L 2 *"), Joined([of("0 0 1 1 *"), of("59 23 L 12 *")]), Met([of("0 0 13 * *"), of("* * * * 5")]),
    Less(of("12 3 15W 6 *"), of("* * 16 * *")), Met([of("0-2 0 29 2 *"), of("* * * * 6")]),
    Joined([SELDOM, of("4 8 1 3 *")]), of("0 12 LW 2,3 *"), of("0 0 31 12 0#5"), of("1 0 1,9 3 *"),
)
# Some that hold often: all their moments are drawn from on_days.
OFTEN = (
    NOON, of("0 9 * * 1-5"), of("30 1,22 * * *"), Less(of("0 */6 * * *"), of("* * 24-26 12 *")),
    Joined([of("0 0 * * *"), of("59 23 * * 1")]), of("3 4 */2 * *"), Less(NOON, of("* * * 2-11 *")),
)
NEVER = (Book(), of("0 0 30 2 *"), Less(WORK, WORK), Met([NOON, Turned(NOON)]), Turned(ALL))


def stepped(book):
    """All moments of a book from the first one from 0 on to the same one a round later."""
    found = [first_from(book, 0)]
    while found[-1] - found[0] < ROUND:
        found.append(first_from(book, found[-1] + 1))
    return found


def drawn(book):
    """The same, by the times of all days of a round."""
    numbers = {}
    found = []
    for year in range(400):
        for month in range(1, 13):
            kind = kind_of(year, month)
            if kind not in numbers:
                days = book.on_days(kind)
                numbers[kind] = [1440 * place + clock for place, times in enumerate(days)
                                 for clock in range(times.bit_length()) if times >> clock & 1]
            start = 1440 * day_of(year, month, 1)
            found += [start + number for number in numbers[kind]]
    return found + [found[0] + ROUND]


def lengths(moments):
    return [later - earlier for earlier, later in zip(moments, moments[1:])]


def greatest():
    """A book that counts 24."""
    rows = [of(f"{7 * k % 60}-59/7 {k % 24} {k + 1},L,{k + 2}W * {k % 7}#2,{(k + 3) % 7}L") for k in range(18)]
    return Joined([Joined(rows[:7]), Less(Joined(rows[7:13]), rows[13]), Met([Turned(rows[14])] + rows[15:18])])


class Gaps(unittest.TestCase):
    def check(self, book, told, length):
        self.assertIs(type(told), tuple)
        self.assertEqual([type(thing) for thing in told], [int, int])
        self.assertEqual(told[0], length)
        self.assertTrue(0 <= told[1] < ROUND)
        self.assertTrue(book.holds(told[1]))
        self.assertEqual(first_from(book, told[1] + 1), told[1] + length)
        self.assertEqual(final_to(book, told[1] + length - 1), told[1])

    def test_against_all_gaps_of_a_round(self):
        for books, moments_of in ((SPARSE, stepped), (OFTEN, drawn)):
            for place, book in enumerate(books):
                with self.subTest(place=place):
                    gaps = lengths(moments_of(book))
                    self.check(book, greatest_gap(book), max(gaps))
                    self.check(book, least_gap(book), min(gaps))
                    self.assertLessEqual(max(gaps), LONGEST)

    def test_by_chance_made_books(self):
        chance = random.Random(76)
        for turn in range(12):
            rows = []
            for many in range(3):
                days = chance.choice(("*", f"{chance.randrange(1, 32)}", "L", f"{chance.randrange(1, 32)}W", "LW"))
                weekdays = chance.choice(("*", f"{chance.randrange(7)}L", f"{chance.randrange(7)}#3"))
                month = chance.randrange(1, 13)
                rows.append(of(f"{chance.randrange(60)} {chance.randrange(24)} {days} {month} {weekdays}"))
            for book in (Joined(rows), Less(Joined(rows[:2]), rows[2]), Less(Joined(rows), LEAP)):
                gaps = lengths(drawn(book))
                self.check(book, greatest_gap(book), max(gaps))
                self.check(book, least_gap(book), min(gaps))

    def test_of_length_one(self):
        for book in (ALL, of("* * * * *"), Joined([WORK, Turned(WORK)])):
            self.check(book, greatest_gap(book), 1)
            self.check(book, least_gap(book), 1)
        # The two minutes stand next to one another within a day, over its end, over that of a month and of a year.
        for book in (of("7,8 3 1 * *"), of("7-9 3 1 6 *"), of("58,59 * 31 1 *"), of("59,0 * * * *"),
                     Joined([of("59 23 L * *"), of("0 0 1 * *")]), Joined([of("59 23 31 12 *"), of("0 0 1 1 *")]),
                     Joined([of("59 23 28 2 *"), of("0 0 29 2 *")])):
            self.check(book, least_gap(book), 1)
            self.assertGreater(greatest_gap(book)[0], 1)

    def test_one_minute_that_lacks(self):
        for book in (Turned(of("0 0 1 1 *")), Turned(SELDOM), Turned(of("59 23 L 2 *")), Turned(of("0 12 * * *"))):
            self.check(book, greatest_gap(book), 2)
            self.check(book, least_gap(book), 1)

    def test_forty_years_apart(self):
        self.check(SELDOM, greatest_gap(SELDOM), LONGEST)
        self.check(SELDOM, least_gap(SELDOM), 10227 * 1440)
        self.assertEqual(greatest_gap(of("5 8 29 2 *"))[0], (8 * 365 + 1) * 1440)
        for day in range(7):
            for row in (f"0 0 * 2 {day}#5", f"59 23 * 2 {day}#5"):
                self.check(of(row), greatest_gap(of(row)), LONGEST)
        # A whole day that comes seldom: the long gap goes from its last minute to a first one.
        book = Met([LEAP, of("* * * * 4")])
        self.check(book, greatest_gap(book), LONGEST - 1439)
        self.check(book, least_gap(book), 1)

    def test_each_kind_of_month(self):
        for kind in range(91):
            month, last, first = month_at(kind)
            rows = [of(f"3 4 {last} {month} *"), of(f"3 4 L {month} *"), of(f"* * * * {(first + last - 1) % 7}")]
            told = greatest_gap(Met(rows))
            self.assertLessEqual(told[0], LONGEST if kind >= 84 else 4382 * 1440)
            self.check(Met(rows), told, told[0])
            self.check(Met(rows), told, max(lengths(drawn(Met(rows)))))

    def test_over_the_end_of_a_round(self):
        # The moment that is told may be the last one of a round; check looks at the next one, too.
        for text in ("0 0 1 1 *", "59 23 31 12 *", "0 0 15 1 *", "0 0 15 12 *"):
            book = of(text)
            self.check(book, greatest_gap(book), 366 * 1440)
            self.check(book, least_gap(book), 365 * 1440)
        book = Joined([of("59 23 31 12 *"), of("0 0 1 1 *")])
        self.check(book, least_gap(book), 1)
        self.check(book, greatest_gap(book), 366 * 1440 - 1)

    def test_none_where_the_book_never_holds(self):
        for book in NEVER:
            self.assertIsNone(greatest_gap(book))
            self.assertIsNone(least_gap(book))

    def test_within_the_longest(self):
        for book in SPARSE + OFTEN + (ALL, LEAP, WORK, Turned(LEAP), greatest()):
            self.assertLessEqual(greatest_gap(book)[0], LONGEST)
            self.assertLessEqual(least_gap(book)[0], greatest_gap(book)[0])

    def test_a_book_of_the_greatest_size(self):
        begin = time.perf_counter()
        book = greatest()
        self.assertEqual(book.tally(), 24)
        most, least = greatest_gap(book), least_gap(book)
        self.check(book, most, most[0])
        self.check(book, least, least[0])
        self.assertLess(time.perf_counter() - begin, 20)
        gaps = lengths(drawn(book))
        self.assertEqual((most[0], least[0]), (max(gaps), min(gaps)))

    def test_books_stay_as_they_are(self):
        books = [WORK, SELDOM]
        book = Joined(books)
        sheet = sheet_of(book)
        told = (greatest_gap(book), least_gap(book))
        books.append(ALL)
        self.assertEqual((greatest_gap(book), least_gap(book)), told)
        self.assertEqual(sheet_of(book), sheet)


if __name__ == "__main__":
    unittest.main()
