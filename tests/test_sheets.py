"""[0.2], [0.5], [0.6], [6.6], [6.7]: the sheets of books and their moments."""

import random
import unittest

from fivefields.books import Book, Joined, Less, Met, Of, Turned
from fivefields.days import day_of
from fivefields.leaps import last_to, next_from
from fivefields.moments import read_moment, show_moment
from fivefields.months import month_at, next_of_kind
from fivefields.rows import read_row
from fivefields.sheets import final_to, first_from, sheet_of

KINDS = range(91)
ALL = 2 ** 1440 - 1
# The calendar comes again by these minutes.
ROUND = 210379680
FAR = (0, -ROUND, 10 ** 59 // ROUND * ROUND, -10 ** 59 // ROUND * ROUND)
TIMES = (0, 1, 59, 60, 539, 540, 541, 570, 719, 720, 1020, 1380, 1438, 1439)


def of(text):
    return Of(read_row(text))


WORK = of("*/30 9-17 * * 1-5")
NOON = of("0 12 * * *")
LEAP = of("* * 29 2 *")
ENDS = of("0 0-12 L,LW * 1#5")
BOOKS = (Book(), WORK, LEAP, Turned(Book()), Turned(WORK), Joined([WORK, LEAP, NOON]), Met([WORK, NOON]),
         Less(WORK, NOON), Less(Turned(Joined([WORK, LEAP])), Met([NOON, Turned(ENDS)])),
         Joined([ENDS, Met([NOON, Turned(WORK)])]))
# Books that hold some time each day or so, for a walk minute by minute.
OFTEN = (NOON, Turned(WORK), Joined([WORK, NOON]), Turned(Book()), Less(of("* * * * *"), WORK),
         Met([of("*/7 * * * *"), of("*/5 * * * *")]), Less(Joined([WORK, NOON]), LEAP), Turned(Turned(NOON)),
         Joined([Book(), Met([NOON]), of("59 23 * * *")]))
# Pairs of books that are made unlike and hold alike.
ALIKE = (
    (Turned(Joined([WORK, LEAP])), Met([Turned(WORK), Turned(LEAP)])),
    (Turned(Met([WORK, NOON])), Joined([Turned(NOON), Turned(WORK)])),
    (Less(WORK, NOON), Met([Turned(NOON), WORK])),
    (Turned(Turned(ENDS)), ENDS),
    (Joined([WORK, WORK]), WORK),
    (Met([NOON, Turned(Book())]), NOON),
    (Book(), Less(WORK, WORK)),
    (Book(), of("0 0 30 2 *")),
    (Book(), Met([LEAP, of("* * 28 2 *")])),
    (Turned(Book()), of("* * * * *")),
    (of("* * * * *"), Joined([of("* * 1-15 * *"), of("* * 16-31 * *")])),
    (of("* * * * *"), Joined([WORK, Turned(WORK)])),
    (of("0 0 * * 1-5"), Less(of("0 0 * * *"), of("0 0 * * 6,7"))),
    (of("0 0 *,5 * 1"), of("0 0 * * *")),
    (of("0 0 LW * *"), Less(of("0 0 LW,L-9 * *"), of("0 0 L-9 * *"))),
    (of("0 0 29 2 *"), of("0 0 29,30,31 2 *")),
    (of("0 0 * 2 0#5,1#5,2#5,3#5,4#5,5#5,6#5"), of("0 0 29 2 *")),
    (of("0 9 1 * 1"), Joined([of("0 9 1 * *"), of("0 9 * * 1")])),
)
UNLIKE = (
    (Book(), LEAP), (Book(), of("0 0 * 2 1#5")), (WORK, NOON), (Turned(Book()), Turned(of("0 0 * 2 3#5"))),
    (of("0 0 28 2 *"), of("0 0 L 2 *")), (of("0 0 * * *"), of("1 0 * * *")), (of("59 23 L * *"), of("58 23 L * *")),
    (of("0 0 15 * *"), of("0 0 15W * *")), (of("0 0 * * 1#4"), of("0 0 * * 1L")), (of("0 0 1-30 * *"), of("0 0 * * *")),
    (WORK, Joined([WORK, of("0 0 29 2 6#5")])),
)


def walked(book, moment, step):
    while not book.holds(moment):
        moment += step
    return moment


class Sheet(unittest.TestCase):
    def test_its_form(self):
        for book in BOOKS:
            sheet = sheet_of(book)
            self.assertIs(type(sheet), list)
            self.assertEqual(len(sheet), 91)
            for kind in KINDS:
                self.assertIs(type(sheet[kind]), list)
                due, ahead = 1, None
                for stretch in sheet[kind]:
                    self.assertIs(type(stretch), tuple)
                    first, last, times = stretch
                    self.assertEqual(first, due)
                    self.assertLessEqual(first, last)
                    self.assertNotEqual(times, ahead)
                    self.assertTrue(0 <= times <= ALL)
                    due, ahead = last + 1, times
                self.assertEqual(due, month_at(kind)[1] + 1)

    def test_against_holds_for_all_kinds(self):
        chance = random.Random(66)
        for book in BOOKS:
            sheet = sheet_of(book)
            for kind in KINDS:
                month, last, first = month_at(kind)
                start = 1440 * day_of(next_of_kind(kind, chance.choice((2000, -400, 10 ** 55, -10 ** 55))), month, 1)
                days = []
                for first, last, times in sheet[kind]:
                    days += [times] * (last - first + 1)
                self.assertEqual(days, book.on_days(kind))
                for day, times in enumerate(days):
                    time = chance.choice(TIMES)
                    self.assertEqual(times >> time & 1, book.holds(start + 1440 * day + time), (kind, day, time))

    def test_by_hand(self):
        sheet = sheet_of(of("0 0 10-12,20 1,2 *"))
        for kind in KINDS:
            month, last, first = month_at(kind)
            told = [(1, 9, 0), (10, 12, 1), (13, 19, 0), (20, 20, 1), (21, last, 0)] if month <= 2 else [(1, last, 0)]
            self.assertEqual(sheet[kind], told)
        sheet = sheet_of(of("1 0 1,L * *"))
        for kind in KINDS:
            last = month_at(kind)[1]
            self.assertEqual(sheet[kind], [(1, 1, 2), (2, last - 1, 0), (last, last, 2)])

    def test_none_and_all(self):
        for kind in KINDS:
            last = month_at(kind)[1]
            self.assertEqual(sheet_of(Book())[kind], [(1, last, 0)])
            self.assertEqual(sheet_of(Turned(Book()))[kind], [(1, last, ALL)])

    def test_equal_where_books_hold_alike(self):
        for place, (one, other) in enumerate(ALIKE):
            self.assertEqual(sheet_of(one), sheet_of(other), place)
            self.assertEqual(sheet_of(Turned(one)), sheet_of(Turned(other)), place)

    def test_unequal_where_books_hold_unlike(self):
        for place, (one, other) in enumerate(UNLIKE):
            self.assertNotEqual(sheet_of(one), sheet_of(other), place)
            parting = Joined([Less(one, other), Less(other, one)])
            moment = first_from(parting, 0)
            self.assertNotEqual(one.holds(moment), other.holds(moment))

    def test_told_lists_changed_and_asked_again(self):
        for book in BOOKS:
            sheet = sheet_of(book)
            once_more = sheet_of(book)
            self.assertEqual(sheet, once_more)
            self.assertIsNot(sheet, once_more)
            self.assertEqual(len({id(page) for page in sheet + once_more}), 182)
            for page in sheet:
                page.clear()
            sheet[3].append("x")
            self.assertEqual(sheet_of(book), once_more)
            sheet.clear()
            self.assertEqual(sheet_of(book), once_more)


class Moments(unittest.TestCase):
    def test_against_a_walk_minute_by_minute(self):
        chance = random.Random(67)
        for place, book in enumerate(OFTEN):
            for shift in FAR:
                moment = shift + chance.randint(0, ROUND)
                self.assertEqual(first_from(book, moment), walked(book, moment, 1), (place, moment))
                self.assertEqual(final_to(book, moment), walked(book, moment, -1), (place, moment))

    def test_against_rows(self):
        chance = random.Random(68)
        for text in ("0 9 * * 1-5", "0 0 29 2 *", "59 23 31 12 *", "0 0 * 2 1#5", "*/9 4 LW 3 *", "0 0 30 2 *"):
            row = read_row(text)
            for shift in FAR:
                moment = shift + chance.randint(0, ROUND)
                for book in (Of(row), Turned(Turned(Of(row))), Met([Of(row), Turned(Book())])):
                    self.assertEqual(first_from(book, moment), next_from(row, moment)[0])
                    self.assertEqual(final_to(book, moment), last_to(row, moment)[0])

    def test_there_and_back(self):
        chance = random.Random(69)
        for book in BOOKS[1:] + OFTEN:
            for shift in FAR:
                moment = shift + chance.randint(0, ROUND)
                later, earlier = first_from(book, moment), final_to(book, moment)
                self.assertLessEqual(earlier, moment)
                self.assertGreaterEqual(later, moment)
                self.assertEqual((book.holds(later), book.holds(earlier)), (True, True))
                if later > moment:
                    self.assertEqual(final_to(book, later - 1), earlier)
                if earlier < moment:
                    self.assertEqual(first_from(book, earlier + 1), later)
                self.assertEqual((first_from(book, later), final_to(book, later)), (later, later))
                self.assertEqual((first_from(book, earlier), final_to(book, earlier)), (earlier, earlier))

    def test_a_book_that_never_holds(self):
        for book in (Book(), of("0 0 30 2 *"), Met([LEAP, of("* * 28 2 *")]), Less(WORK, WORK), Turned(Turned(Book())),
                     Met([of("0 0 29 2 1"), of("0 0 28 2 *"), of("1 0 * * *")])):
            for moment in (0, -1, 1, 10 ** 59, -10 ** 59, 10 ** 60, -10 ** 60):
                self.assertIsNone(first_from(book, moment))
                self.assertIsNone(final_to(book, moment))

    def test_a_book_that_always_holds(self):
        for book in (Turned(Book()), of("* * * * *"), Joined([WORK, Turned(WORK)])):
            for moment in (0, -1, 1, 1439, 1440, -1440, 10 ** 59, -10 ** 59, 10 ** 60, -10 ** 60):
                self.assertEqual(first_from(book, moment), moment)
                self.assertEqual(final_to(book, moment), moment)

    def test_forty_years_between(self):
        # Of the long Februaries from 1872 to 1912 just these two begin with a Thursday.
        for book in (of("5 8 * 2 4#5"), Met([of("5 8 29 2 *"), of("* * * * 4")]),
                     Less(of("5 8 29 2 *"), of("* * * * 0-3,5-6"))):
            for shift in FAR:
                one, other = read_moment("1872-02-29 08:05") + shift, read_moment("1912-02-29 08:05") + shift
                self.assertEqual(first_from(book, one), one)
                self.assertEqual(first_from(book, one + 1), other)
                self.assertEqual(final_to(book, other), other)
                self.assertEqual(final_to(book, other - 1), one)
                self.assertLessEqual(other - one, 14609 * 1440)

    def test_each_kind_of_month_by_itself(self):
        # The rows of one month, met with a first day of one weekday: each kind is found within [0.6]'s days.
        for kind in range(84):
            month, last, first = month_at(kind)
            book = Met([of(f"0 0 1 {month} *"), of(f"* * * * {first}")] + ([Turned(LEAP)] if month == 2 else []))
            moment = read_moment("1896-12-31 23:59")
            for turn in range(3):
                found = first_from(book, moment)
                self.assertLessEqual(found - moment, 4382 * 1440)
                self.assertEqual(final_to(book, found), found)
                moment = found + 1

    def test_ends_of_days_months_and_years(self):
        book = Joined([of("0 0 1 * *"), of("59 23 L * *")])
        for moment, later, earlier in (
                ("2024-02-15 12:00", "2024-02-29 23:59", "2024-02-01 00:00"),
                ("2023-12-31 23:59", "2023-12-31 23:59", "2023-12-31 23:59"),
                ("2023-12-31 23:58", "2023-12-31 23:59", "2023-12-01 00:00"),
                ("2024-01-01 00:01", "2024-01-31 23:59", "2024-01-01 00:00"),
                ("-1-12-31 12:00", "-1-12-31 23:59", "-1-12-01 00:00"),
                ("0-01-01 00:01", "0-01-31 23:59", "0-01-01 00:00")):
            self.assertEqual(show_moment(first_from(book, read_moment(moment))), later)
            self.assertEqual(show_moment(final_to(book, read_moment(moment))), earlier)


if __name__ == "__main__":
    unittest.main()
