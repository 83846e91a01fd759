"""[0.1] to [0.6]: what is promised over the whole program."""

import importlib
import inspect
import unittest

from fivefields.against import against, parted_from, shared_from
from fivefields.booktexts import read_book, shown_book
from fivefields.books import Book, Joined, Less, Met, Of, Turned
from fivefields.clocks import Clock, Shifted
from fivefields.counts import ROUND, count, in_round, nth
from fivefields.days import date_of, day_of, days_before, last_of, weekday
from fivefields.desk import Desk
from fivefields.few import rows_for
from fivefields.fields import numbers_in
from fivefields.gaps import greatest_gap, least_gap
from fivefields.leaps import last_to, next_from
from fivefields.marks import Mark, read_days, read_weekdays
from fivefields.moments import moment_of, parted, show_moment
from fivefields.months import kind_of, next_of_kind
from fivefields.papers import shuts
from fivefields.ranges import ranges_of, starts_of
from fivefields.rings import next_ring, readings, ring_of, rings_at
from fivefields.rows import read_row
from fivefields.sheets import final_to, first_from, sheet_of

# The names that the interface tells, with their arguments.
FUNCTIONS = {
    "wholes": ("is_whole(thing)",),
    "days": ("is_long(year)", "days_before(year)", "last_of(year, month)", "day_of(year, month, day)", "date_of(day)",
             "weekday(day)"),
    "moments": ("moment_of(day, hour, minute)", "parted(moment)", "show_moment(moment)", "read_moment(text)"),
    "fields": ("mask_of(numbers)", "numbers_in(mask)", "read_field(text, low, high)", "shown_field(mask, low, high)"),
    "ranges": ("ranges_of(mask)", "starts_of(mask)", "shown_ranges(mask)"),
    "months": ("kind_of(year, month)", "month_at(kind)", "next_of_kind(kind, year)"),
    "marks": ("any_days(marks, last, first)", "read_days(text)", "read_weekdays(text)", "shown_marks(marks)"),
    "rows": ("read_row(text)",),
    "few": ("rows_for(times)",),
    "papers": ("shuts(row, begin, end, paper)",),
    "leaps": ("next_from(row, moment)", "last_to(row, moment)", "never(row)"),
    "sheets": ("sheet_of(book)", "first_from(book, moment)", "final_to(book, moment)"),
    "against": ("against(one, other)", "parted_from(one, other, moment)", "shared_from(one, other, moment)"),
    "counts": ("count(book, begin, end)", "nth(book, moment, many)", "in_round(book)"),
    "gaps": ("greatest_gap(book)", "least_gap(book)"),
    "rings": ("readings(clock, local)", "ring_of(clock, local)", "rings_at(clock, book, true)",
              "next_ring(clock, book, true)"),
    "booktexts": ("read_book(text, names)", "shown_book(book)"),
}
# The classes: what each is made with, what it stands under, and its own methods.
MARK = ("days(last, first)", "told()")
BOOK = ("holds(moment)", "tally()", "depth()", "on_days(kind)")
CLOCK = ("offset_at(true)", "local(true)", "put_at(true)")
CLASSES = {
    "marks": (("Mark", "()", "object", MARK), ("Numbers", "(mask)", "Mark", MARK), ("Last", "(back=0)", "Mark", MARK),
              ("Near", "(day)", "Mark", MARK), ("LastWork", "()", "Mark", MARK), ("Weekdays", "(mask)", "Mark", MARK),
              ("Nth", "(weekday, many)", "Mark", MARK), ("LastOne", "(weekday)", "Mark", MARK)),
    "books": (("Book", "()", "object", BOOK), ("Of", "(row)", "Book", ("holds(moment)", "on_days(kind)")),
              ("Joined", "(books)", "Book", BOOK), ("Met", "(books)", "Book", BOOK),
              ("Less", "(one, other)", "Book", BOOK), ("Turned", "(one)", "Book", BOOK)),
    "clocks": (("Clock", "(base=0)", "object", CLOCK), ("Shifted", "(puts)", "Clock", CLOCK)),
    "desk": (("Desk", "()", "object", ("say(row)",)),),
}
ROW_METHODS = ("minutes()", "hours()", "months()", "times()", "days_in(kind)", "holds(moment)", "shut_by(moment)",
               "shown()")
REFUSALS = ("NoDay", "NoMoment", "NoField", "NoRow", "NoBook", "NoClock", "NoName", "NoWord")
MOST = 10 ** 60


def of(text):
    return Of(read_row(text))


def signs_of(function):
    return str(inspect.signature(function))


def own_signs(kind, method):
    return signs_of(kind.__dict__[method]).replace("(self, ", "(").replace("(self)", "()")


class Interface(unittest.TestCase):
    def test_functions(self):
        for name, functions in FUNCTIONS.items():
            module = importlib.import_module(f"fivefields.{name}")
            for told in functions:
                function = getattr(module, told.partition("(")[0])
                self.assertEqual(function.__name__ + signs_of(function), told)
        self.assertEqual(ROUND, 210379680)

    def test_classes_and_their_own_methods(self):
        for name, classes in CLASSES.items():
            module = importlib.import_module(f"fivefields.{name}")
            for told, made_with, base, methods in classes:
                kind = getattr(module, told)
                self.assertEqual([one.__name__ for one in kind.__bases__], [base])
                self.assertEqual(signs_of(kind), made_with)
                for method in methods:
                    bare = method.partition("(")[0]
                    self.assertEqual(bare + own_signs(kind, bare), method)
        row = type(read_row("* * * * *"))
        self.assertEqual(row, importlib.import_module("fivefields.rows").Row)
        for method in ROW_METHODS:
            bare = method.partition("(")[0]
            self.assertEqual(bare + own_signs(row, bare), method)

    def test_refusals(self):
        errors = importlib.import_module("fivefields.errors")
        self.assertEqual(errors.FieldError.__bases__, (ValueError,))
        for name in REFUSALS:
            self.assertEqual(getattr(errors, name).__bases__, (errors.FieldError,))


class FarAway(unittest.TestCase):
    """Whole numbers up to 10 ** 60 on either side, through one function after the other."""

    def test_days_and_moments(self):
        for far in (MOST, -MOST):
            date = date_of(far)
            self.assertEqual(day_of(*date), far)
            self.assertEqual(weekday(far + 7), weekday(far))
            self.assertEqual(days_before(far + 400) - days_before(far), 146097)
            self.assertEqual(last_of(far, 2), 29)
            self.assertEqual(moment_of(*parted(far)), far)
            self.assertEqual(show_moment(far)[-3:], f":{far % 60:02}")
            self.assertTrue(0 <= next_of_kind(kind_of(far, 2), far + 1) - far <= 40)

    def test_rows_and_books(self):
        row = read_row("7 8 * * 1")
        book = Less(Of(row), of("* * 25 12 *"))
        for far in (MOST, -MOST):
            found, paper = next_from(row, far)
            self.assertTrue(row.holds(found) and shuts(row, far, found - 1, paper))
            found, paper = last_to(row, far)
            self.assertTrue(row.holds(found) and shuts(row, found + 1, far, paper))
            self.assertTrue(final_to(book, far) <= far <= first_from(book, far))
            self.assertEqual(final_to(book, first_from(book, far)), first_from(book, far))
            self.assertEqual(parted_from(book, Book(), far), first_from(book, far))
            self.assertEqual(shared_from(book, Of(row), far), first_from(book, far))
            self.assertEqual(nth(book, far, 0), first_from(book, far))
            self.assertEqual(count(book, far, nth(book, far, MOST)), MOST)
        self.assertEqual(count(Turned(Book()), -MOST, MOST), 2 * MOST)

    def test_clocks(self):
        book = of("*/7 * * * *")
        for clock in (Clock(720), Clock(-720), Shifted([(read_row("0 1 * 3 0L"), 60), (read_row("0 1 * 10 0L"), 0)])):
            for far in (MOST, -MOST):
                ring = next_ring(clock, book, far)
                self.assertTrue(far <= ring < far + 200)
                for moment in rings_at(clock, book, ring):
                    self.assertEqual(ring_of(clock, moment), ring)
                self.assertIn(far, readings(clock, clock.local(far)))


class TheAskersOwn(unittest.TestCase):
    """Lists that are told are new ones: what is changed in them changes nothing that is told later."""

    def spoil(self, thing):
        """Changes all lists of a told thing, those within them too."""
        if isinstance(thing, (list, tuple)):
            for part in thing:
                self.spoil(part)
        if isinstance(thing, list):
            thing.reverse()
            thing.append("spoilt")

    def lists_in(self, thing):
        found = [thing] if isinstance(thing, list) else []
        if isinstance(thing, (list, tuple)):
            for part in thing:
                found += self.lists_in(part)
        return found

    def test_told_lists(self):
        row, book = read_row("*/30 9 LW,15W * 1#5"), Joined([of("0 9 * * 1-5"), of("5 8 29 2 *")])
        clock = Shifted([(read_row("0 1 * 3 0L"), 60), (read_row("0 1 * 10 0L"), 0)])
        asked = (
            lambda: numbers_in(1234567), lambda: ranges_of(1234567), lambda: starts_of(1234567),
            lambda: next_from(row, 77), lambda: last_to(row, 77), lambda: rows_for(row.times()),
            lambda: book.on_days(88), lambda: Book().on_days(88),
            lambda: sheet_of(book), lambda: sheet_of(Turned(Book())), lambda: readings(clock, 5),
            lambda: rings_at(clock, Turned(Book()), 1064651100), lambda: Met([book, book]).on_days(3),
            lambda: book.books[0].on_days(3))
        for ask in asked:
            first, second = ask(), ask()
            self.assertEqual(first, second)
            lists = self.lists_in(first) + self.lists_in(second)
            self.assertEqual(len({id(one) for one in lists}), len(lists))
            self.spoil(first)
            self.assertEqual(ask(), second)

    def test_marks_that_are_told(self):
        for read in (read_days, read_weekdays):
            first = read("1-3,5")
            first.append(Mark())
            self.assertEqual(len(read("1-3,5")), 1)

    def test_lists_that_are_handed_in(self):
        books = [of("0 9 * * 1-5"), of("5 8 29 2 *")]
        puts = [(read_row("0 1 * 3 0L"), 60), (read_row("0 1 * 10 0L"), 0)]
        names = {"a": books[0]}
        joined, met, clock, read = Joined(books), Met(books), Shifted(puts), read_book("not a", names)
        ask = lambda: (sheet_of(joined), sheet_of(met), clock.put_at(0), shown_book(read), joined.books)
        told = ask()
        self.assertEqual((len(books), len(puts), list(names)), (2, 2, ["a"]))
        books.reverse()
        books.append(Turned(Book()))
        puts.pop()
        puts[0] = (read_row("0 0 1 1 *"), -7)
        names["a"] = Book()
        self.assertEqual(ask(), told)


class Together(unittest.TestCase):
    """The promise of [0.5], from stage to stage."""

    def test_a_book_from_its_text_to_its_rings(self):
        desk = Desk()
        desk.say("book work [*/20 9-16 * * 1-5]")
        desk.say("book feast [* * 25-26 12 *] or [* * 1 1 *]")
        desk.say("book days work but feast")
        days = read_book(desk.say("show days"), {})
        work = of("*/20 9-16 * * 1-5")
        self.assertEqual(against(days, work), "within")
        self.assertEqual(sheet_of(days), sheet_of(Less(work, Less(work, days))))
        self.assertEqual(in_round(work) - in_round(days), in_round(Less(work, days)))
        for book in (days, work, Less(work, days)):
            length, moment = greatest_gap(book)
            self.assertEqual(first_from(book, moment + 1), moment + length)
            self.assertLessEqual(length, 14609 * 1440)
            self.assertLessEqual(least_gap(book)[0], length)
            self.assertEqual(nth(book, moment, 1), moment + length)
            self.assertEqual(count(book, moment, moment + length), 1)


if __name__ == "__main__":
    unittest.main()
