"""[0.2] to [0.4], [6.1] to [6.5]: books."""

import random
import unittest

from fivefields.books import Book, Joined, Less, Met, Of, Turned
from fivefields.days import day_of
from fivefields.errors import FieldError, NoBook
from fivefields.moments import read_moment
from fivefields.months import month_at, next_of_kind
from fivefields.rows import read_row

UNDER = (Of, Joined, Met, Less, Turned)
KINDS = range(91)
ALL = 2 ** 1440 - 1
# The calendar comes again by these minutes.
ROUND = 210379680
FAR = (0, -ROUND, 10 ** 59 // ROUND * ROUND, -10 ** 59 // ROUND * ROUND)
TIMES = (0, 1, 59, 60, 539, 540, 541, 570, 719, 720, 1020, 1380, 1438, 1439)
NO_BOOKS = (None, True, 0, 1, "book", "", [], (), {}, 1.5, b"", object(), Book, Of, read_row("* * * * *"))


def of(text):
    return Of(read_row(text))


def some_books():
    """Books of every class, alone and within one another, with a function that tells where they hold."""
    work, noon, leap = of("*/30 9-17 * * 1-5"), of("0 12 * * *"), of("* * 29 2 *")
    ends, first = of("0 0-12 L,LW * 1#5"), of("* * 1 1,7 *")

    def inside(book):
        return lambda moment: book.row.holds(moment)

    works, noons, leaps, endings, firsts = [inside(book) for book in (work, noon, leap, ends, first)]
    return [
        (Book(), lambda moment: False),
        (work, works), (leap, leaps), (ends, endings),
        (Turned(Book()), lambda moment: True),
        (Turned(work), lambda moment: not works(moment)),
        (Joined([noon]), noons), (Met([noon]), noons),
        (Joined([work, leap, first]), lambda moment: works(moment) or leaps(moment) or firsts(moment)),
        (Met([work, noon]), lambda moment: works(moment) and noons(moment)),
        (Met([work, Turned(noon), Turned(ends)]),
         lambda moment: works(moment) and not noons(moment) and not endings(moment)),
        (Less(work, noon), lambda moment: works(moment) and not noons(moment)),
        (Less(noon, work), lambda moment: noons(moment) and not works(moment)),
        (Less(work, work), lambda moment: False),
        (Joined([work, Turned(work)]), lambda moment: True),
        (Met([work, Turned(work)]), lambda moment: False),
        (Less(Turned(Joined([work, leap])), Met([first, Turned(ends)])),
         lambda moment: not (works(moment) or leaps(moment)) and not (firsts(moment) and not endings(moment))),
        (Joined([Book(), Less(leap, noon), Met([ends, ends]), noon, noon]),
         lambda moment: (leaps(moment) and not noons(moment)) or endings(moment) or noons(moment)),
        (Turned(Turned(Turned(Turned(work)))), works),
        (Met([Turned(Book()), first]), firsts),
    ]


def some_moments(chance, many):
    """Moments of which the books above hold at some."""
    texts = ("2024-02-29 12:00", "2024-02-29 12:01", "2026-11-16 09:30", "2026-11-15 09:30", "2026-11-16 12:00",
             "2026-11-30 00:00", "2026-07-01 03:03", "2026-01-01 12:00", "-1-12-31 00:00", "0-01-01 00:00")
    moments = [read_moment(text) for text in texts]
    moments += [1440 * chance.randint(-10 ** 6, 10 ** 6) + chance.choice(TIMES) for turn in range(many)]
    return [moment + chance.choice(FAR) for moment in moments]


class Holding(unittest.TestCase):
    def test_each_book_against_the_words_of_the_document(self):
        chance = random.Random(61)
        for book, told in some_books():
            for moment in some_moments(chance, 150):
                self.assertIs(book.holds(moment), bool(told(moment)), (type(book), moment))

    def test_by_hand(self):
        monday, sunday = of("0 9 * * 1"), of("0 9 * * 0")
        at_monday, at_sunday = read_moment("2026-11-16 09:00"), read_moment("2026-11-15 09:00")
        for book, on_monday, on_sunday, one_later in (
                (Book(), False, False, False), (monday, True, False, False), (Turned(monday), False, True, True),
                (Joined([monday, sunday]), True, True, False), (Met([monday, sunday]), False, False, False),
                (Met([monday, Turned(sunday)]), True, False, False), (Less(monday, sunday), True, False, False),
                (Less(Joined([monday, sunday]), monday), False, True, False),
                (Turned(Joined([sunday, monday])), False, False, True)):
            self.assertIs(book.holds(at_monday), on_monday)
            self.assertIs(book.holds(at_sunday), on_sunday)
            self.assertIs(book.holds(at_monday + 1), one_later)

    def test_one_book_that_stands_twice(self):
        monday = of("0 9 * * 1")
        at = read_moment("2026-11-16 09:00")
        for book in (Joined([monday, monday]), Met([monday, monday]), Joined([monday] * 8), Met([monday] * 8)):
            self.assertIs(book.holds(at), True)
            self.assertIs(book.holds(at + 1), False)
        self.assertIs(Less(monday, monday).holds(at), False)

    def test_all_minutes_of_a_day(self):
        book = Less(Joined([of("0 * * * *"), of("30 8 * * *")]), of("* 12-23 * * *"))
        first = 1440 * day_of(2026, 11, 16)
        held = [time for time in range(1440) if book.holds(first + time)]
        self.assertEqual(held, sorted([60 * hour for hour in range(12)] + [510]))


class Classes(unittest.TestCase):
    def test_each_stands_straight_under_book(self):
        self.assertEqual(Book.__bases__, (object,))
        for kind in UNDER:
            self.assertEqual(kind.__bases__, (Book,), kind)

    def test_each_has_its_own_methods(self):
        for kind in (Book, Of, Joined, Met, Less, Turned):
            self.assertIn("holds", vars(kind), kind)
            self.assertIn("on_days", vars(kind), kind)
        for kind in (Book, Joined, Met, Less, Turned):
            self.assertIn("tally", vars(kind), kind)
            self.assertIn("depth", vars(kind), kind)

    def test_of_has_the_tally_and_depth_of_book(self):
        self.assertIs(Of.tally, Book.tally)
        self.assertIs(Of.depth, Book.depth)


class Keeping(unittest.TestCase):
    def test_the_very_things_handed_in(self):
        row = read_row("0 9 * * 1")
        one, other, third = Of(row), Book(), Turned(Book())
        self.assertIs(one.row, row)
        self.assertIs(Less(one, other).one, one)
        self.assertIs(Less(one, other).other, other)
        self.assertIs(Turned(third).one, third)
        for kind in (Joined, Met):
            book = kind([one, other, third, one])
            self.assertIs(type(book.books), tuple)
            self.assertEqual(len(book.books), 4)
            for kept, handed in zip(book.books, (one, other, third, one)):
                self.assertIs(kept, handed)

    def test_by_the_names_of_the_values(self):
        row = read_row("0 9 * * 1")
        book = Of(row=row)
        self.assertIs(book.row, row)
        self.assertEqual(Joined(books=[book]).books, (book,))
        self.assertEqual(Met(books=[book]).books, (book,))
        self.assertIs(Less(one=book, other=Book()).one, book)
        self.assertIs(Turned(one=book).one, book)

    def test_a_list_changed_behind(self):
        monday, sunday = of("0 9 * * 1"), of("0 9 * * 0")
        at = read_moment("2026-11-16 09:00")
        for kind, told in ((Joined, True), (Met, False)):
            handed = [monday, sunday]
            book = kind(handed)
            days = book.on_days(0)
            self.assertEqual(handed, [monday, sunday])
            changes = (lambda: handed.append("x"), lambda: handed.__setitem__(0, None), handed.reverse, handed.clear)
            for change in changes:
                change()
                self.assertEqual(book.books, (monday, sunday))
                self.assertIs(book.holds(at), told)
                self.assertEqual((book.tally(), book.depth()), (3, 2))
                self.assertEqual(book.on_days(0), days)


class Counting(unittest.TestCase):
    def test_tally_and_depth(self):
        one = of("0 9 * * 1")
        for book, tally, depth in (
                (Book(), 1, 1), (one, 1, 1), (Turned(one), 2, 2), (Turned(Book()), 2, 2), (Less(one, one), 3, 2),
                (Joined([one]), 2, 2), (Met([one]), 2, 2), (Joined([one] * 8), 9, 2), (Met([one, Book(), one]), 4, 2),
                (Turned(Turned(one)), 3, 3), (Less(Turned(one), one), 4, 3), (Less(one, Turned(one)), 4, 3),
                (Joined([one, Turned(Turned(one)), one]), 6, 4), (Met([Turned(Turned(one)), one]), 5, 4),
                (Joined([Met([one, one]), Met([one, one])]), 7, 3), (Turned(Turned(Turned(Turned(one)))), 5, 5)):
            self.assertEqual((book.tally(), book.depth()), (tally, depth))

    def test_one_that_stands_twice_counts_twice(self):
        twice = Less(of("0 9 * * 1"), Book())
        self.assertEqual(Joined([twice, twice]).tally(), 7)
        self.assertEqual(Met([twice, twice, Turned(twice)]).tally(), 11)
        self.assertEqual(Less(twice, twice).tally(), 7)
        self.assertEqual(Less(twice, twice).depth(), 3)


class Refusing(unittest.TestCase):
    def refused(self, kind, *things):
        with self.assertRaises(FieldError, msg=(kind, things)) as taken:
            kind(*things)
        self.assertIs(type(taken.exception), NoBook)

    def counts(self, many):
        """A book that counts so many, from 1 to 17, and is at most 3 deep."""
        if many == 1:
            return Book()
        if many <= 9:
            return Joined([Book()] * (many - 1))
        return Met([Joined([Book()] * 8)] + [Book()] * (many - 10))

    def deep(self, many):
        book = of("* * * * *")
        for turn in range(many - 1):
            book = Turned(book)
        return book

    def test_no_row(self):
        for thing in (None, True, 0, "", "0 9 * * 1", [], (), {}, Book(), of("* * * * *"), [read_row("* * * * *")],
                      object()):
            self.refused(Of, thing)

    def test_no_list(self):
        book = Book()
        for kind in (Joined, Met):
            for thing in (None, True, 0, "", "ab", (), (book,), (book, book), {}, {0: book}, {book}, book,
                          iter([book])):
                self.refused(kind, thing)

    def test_an_empty_list_and_nine_books(self):
        for kind in (Joined, Met):
            self.refused(kind, [])
            self.refused(kind, [Book()] * 9)
            self.refused(kind, [Book()] * 10)
            self.assertEqual(len(kind([Book()] * 8).books), 8)
            self.assertEqual(len(kind([Book()]).books), 1)

    def test_a_thing_that_is_no_book(self):
        for thing in NO_BOOKS:
            for kind in (Joined, Met):
                self.refused(kind, [thing])
                self.refused(kind, [Book(), thing])
                self.refused(kind, [thing, Book()])
                self.refused(kind, [Book()] * 7 + [thing])
                self.refused(kind, [Book()] * 9 + [thing])
            self.refused(Less, thing, Book())
            self.refused(Less, Book(), thing)
            self.refused(Less, thing, thing)
            self.refused(Turned, thing)

    def test_twenty_four_counted_and_twenty_five(self):
        for many in range(1, 18):
            self.assertEqual(self.counts(many).tally(), many)
        for kind in (Joined, Met):
            self.assertEqual(kind([self.counts(16), self.counts(7)]).tally(), 24)
            self.refused(kind, [self.counts(16), self.counts(8)])
            self.refused(kind, [self.counts(17), self.counts(17)])
            self.assertEqual(kind([self.counts(3)] * 7 + [self.counts(2)]).tally(), 24)
            self.refused(kind, [self.counts(3)] * 8)
        self.assertEqual(Less(self.counts(16), self.counts(7)).tally(), 24)
        self.assertEqual(Less(self.counts(7), self.counts(16)).tally(), 24)
        self.refused(Less, self.counts(16), self.counts(8))
        self.refused(Less, self.counts(8), self.counts(16))
        whole = Joined([self.counts(16), self.counts(7)])
        self.refused(Turned, whole)
        self.refused(Less, whole, Book())
        self.refused(Met, [whole])
        self.assertEqual(Turned(Joined([self.counts(16), self.counts(6)])).tally(), 24)

    def test_five_deep_and_six(self):
        four, five = self.deep(4), self.deep(5)
        self.assertEqual((four.depth(), five.depth()), (4, 5))
        self.refused(Turned, five)
        self.assertEqual(Turned(four).depth(), 5)
        for other in (Book(), four):
            self.assertEqual(Less(four, other).depth(), 5)
            self.assertEqual(Less(other, four).depth(), 5)
            self.refused(Less, five, other)
            self.refused(Less, other, five)
            for kind in (Joined, Met):
                self.assertEqual(kind([other, four]).depth(), 5)
                self.refused(kind, [other, five])
                self.refused(kind, [five, other])
        for kind in (Joined, Met):
            self.assertEqual(kind([four]).depth(), 5)
            self.refused(kind, [five])


class OnDays(unittest.TestCase):
    def test_against_holds_for_all_kinds(self):
        chance = random.Random(65)
        for book, told in some_books():
            for kind in KINDS:
                month, last, first = month_at(kind)
                year = next_of_kind(kind, chance.choice((2000, -400, 10 ** 55, -10 ** 55)))
                start = 1440 * day_of(year, month, 1)
                days = book.on_days(kind)
                self.assertIs(type(days), list)
                self.assertEqual(len(days), last)
                for day in range(last):
                    for time in chance.sample(TIMES, 3):
                        held = told(start + 1440 * day + time)
                        self.assertEqual(days[day] >> time & 1, held, (type(book), kind, day))

    def test_every_minute_of_some_months(self):
        books = [book for book, told in some_books()]
        for book, kind in zip((books[8], books[16], books[17]), (88, 70, 5)):
            month, last, first = month_at(kind)
            start = 1440 * day_of(next_of_kind(kind, 2000), month, 1)
            for day in (0, 14, last - 2, last - 1):
                held = sum(2 ** time for time in range(1440) if book.holds(start + 1440 * day + time))
                self.assertEqual(book.on_days(kind)[day], held)

    def test_none_and_all(self):
        for kind in KINDS:
            last = month_at(kind)[1]
            self.assertEqual(Book().on_days(kind), [0] * last)
            self.assertEqual(Turned(Book()).on_days(kind), [ALL] * last)
            self.assertEqual(Turned(of("* * * * *")).on_days(kind), [0] * last)

    def test_times_below_two_to_the_1440(self):
        for book, told in some_books():
            for kind in (0, 30, 84, 90):
                for times in book.on_days(kind):
                    self.assertIs(type(times), int)
                    self.assertTrue(0 <= times <= ALL)

    def test_told_lists_are_the_askers_own(self):
        for book, told in some_books():
            days = book.on_days(3)
            kept = list(days)
            self.assertIsNot(book.on_days(3), days)
            days.clear()
            self.assertEqual(book.on_days(3), kept)
            days = book.on_days(3)
            days[0] = -1
            self.assertEqual(book.on_days(3), kept)


if __name__ == "__main__":
    unittest.main()
