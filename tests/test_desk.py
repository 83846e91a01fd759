"""[0.2], [9.5], [9.6]: the desk."""

import unittest

from fivefields.against import against, parted_from
from fivefields.books import Book, Joined, Less, Of, Turned
from fivefields.clocks import Clock, Shifted
from fivefields.counts import count, nth
from fivefields.desk import Desk
from fivefields.errors import FieldError, NoBook, NoClock, NoMoment, NoName, NoWord
from fivefields.gaps import greatest_gap
from fivefields.moments import read_moment, show_moment
from fivefields.rings import next_ring
from fivefields.rows import read_row
from fivefields.sheets import final_to, first_from

ROUND = 210379680
WORK = "[0 9 * * 1-5]"
FEAST = "[* * 25-26 12 *]"
SPRING, AUTUMN = "[0 1 * 3 0L]", "[0 1 * 10 0L]"
FIFTY = "9" * 50


def of(text):
    return Of(read_row(text))


BOOKS = {"work": of("0 9 * * 1-5"), "feast": of("* * 25-26 12 *"), "all": Turned(Book()), "never": Book(),
         "seldom": of("5 8 * 2 4#5")}
MOMENTS = ("2024-12-25 09:00", "2024-12-25 08:59", "0-01-01 00:00", "-44-03-15 11:30", "-1-12-31 23:59",
           f"{FIFTY}-12-31 23:59", f"-{FIFTY}-02-28 00:00", "1872-02-29 08:06")


def told(rows):
    """A desk to which some rows were told."""
    desk = Desk()
    for row in rows:
        if desk.say(row) != "ok":
            raise AssertionError(row)
    return desk


def usual():
    """A desk that keeps the books of BOOKS."""
    return told([f"book work {WORK}", f"book feast {FEAST}", "book all not none", "book never none",
                 "book seldom [5 8 * 2 4#5]"])


def shown(moment):
    return "never" if moment is None else show_moment(moment)


class Answers(unittest.TestCase):
    def test_at_first(self):
        desk = Desk()
        self.assertEqual(desk.say("names"), "none")
        self.assertEqual(desk.say(f"book work {WORK}"), "ok")
        # The clock's offset is 0.
        self.assertEqual(desk.say("ring work 2024-12-25 08:59"), "2024-12-25 09:00")

    def test_two_desks_are_apart(self):
        one, other = usual(), Desk()
        one.say("clock 60")
        self.assertEqual(other.say("names"), "none")
        other.say(f"book work {WORK}")
        self.assertEqual(other.say("ring work 2024-12-25 08:59"), "2024-12-25 09:00")

    def test_names_in_their_order(self):
        desk = told(["book b none", "book a none", "book c none"])
        self.assertEqual(desk.say("names"), "b a c")
        desk.say("book a not none")
        desk.say("book b (a or c)")
        self.assertEqual(desk.say("names"), "b a c")
        desk.say("drop b")
        self.assertEqual(desk.say("names"), "a c")
        desk.say("book b none")
        self.assertEqual(desk.say("names"), "a c b")
        for name in ("a", "b", "c"):
            self.assertEqual(desk.say(f"drop {name}"), "ok")
        self.assertEqual(desk.say("names"), "none")
        desk.say("book c none")
        self.assertEqual(desk.say("names"), "c")

    def test_names_of_one_to_eight_letters(self):
        desk = told(["book z none", "book abcdefgh not z", "book names none", "book book none",
                     "book drop book or names"])
        self.assertEqual(desk.say("names"), "z abcdefgh names book drop")
        self.assertEqual(desk.say("show drop"), "none or none")
        self.assertEqual(desk.say("drop drop"), "ok")
        self.assertEqual(desk.say("show abcdefgh"), "not none")

    def test_show(self):
        desk = usual()
        self.assertEqual(desk.say("show work"), WORK)
        self.assertEqual(desk.say("show all"), "not none")
        desk.say("book days (work or (feast)) but not [*/30 9 L * *]")
        self.assertEqual(desk.say("show days"), f"({WORK} or {FEAST}) but not [0,30 9 L * *]")

    def test_books_told_anew(self):
        desk = usual()
        desk.say("book both work or feast")
        desk.say("book turned not work")
        before = desk.say("show both"), desk.say("show turned")
        desk.say("book work none")
        self.assertEqual((desk.say("show both"), desk.say("show turned")), before)
        self.assertEqual(desk.say("show work"), "none")
        desk.say("drop feast")
        desk.say("drop work")
        self.assertEqual((desk.say("show both"), desk.say("show turned")), before)
        self.assertEqual(desk.say("holds both 2024-12-25 09:00"), "yes")

    def test_a_book_made_of_itself(self):
        desk = told([f"book a {WORK}", "book a not a", "book a (a or none)"])
        self.assertEqual(desk.say("show a"), f"not {WORK} or none")

    def test_holds_next_last(self):
        desk = usual()
        for name, book in BOOKS.items():
            for text in MOMENTS:
                moment = read_moment(text)
                self.assertEqual(desk.say(f"holds {name} {text}"), "yes" if book.holds(moment) else "no")
                self.assertEqual(desk.say(f"next {name} {text}"), shown(first_from(book, moment)))
                self.assertEqual(desk.say(f"last {name} {text}"), shown(final_to(book, moment)))
        self.assertEqual(desk.say("holds work 2024-12-25 09:00"), "yes")
        self.assertEqual(desk.say("holds work 2024-12-25 09:01"), "no")
        self.assertEqual(desk.say("next work 2024-12-27 09:01"), "2024-12-30 09:00")
        self.assertEqual(desk.say("last work 2024-12-30 08:59"), "2024-12-27 09:00")
        self.assertEqual(desk.say("next seldom 1872-02-29 08:06"), "1912-02-29 08:05")
        self.assertEqual(desk.say("next never 2024-12-25 09:00"), "never")
        self.assertEqual(desk.say("last never 2024-12-25 09:00"), "never")

    def test_against_and_parted(self):
        desk = usual()
        for one, first in BOOKS.items():
            for other, second in BOOKS.items():
                self.assertEqual(desk.say(f"against {one} {other}"), against(first, second))
                for text in MOMENTS:
                    self.assertEqual(desk.say(f"parted {one} {other} {text}"),
                                     shown(parted_from(first, second, read_moment(text))))
        self.assertEqual(desk.say("against work all"), "within")
        self.assertEqual(desk.say("against all work"), "around")
        self.assertEqual(desk.say("parted work work 2024-12-25 09:00"), "never")
        self.assertEqual(desk.say("parted work never 2024-12-27 09:01"), "2024-12-30 09:00")

    def test_count(self):
        desk = usual()
        self.assertEqual(desk.say("count work 2024-01-01 00:00 2025-01-01 00:00"), "262")
        self.assertEqual(desk.say("count work 2025-01-01 00:00 2024-01-01 00:00"), "0")
        self.assertEqual(desk.say("count all 2024-01-01 00:00 2024-01-01 00:00"), "0")
        for name, book in BOOKS.items():
            for begin in MOMENTS:
                for end in MOMENTS:
                    many = count(book, read_moment(begin), read_moment(end))
                    self.assertEqual(desk.say(f"count {name} {begin} {end}"), str(many))

    def test_nth(self):
        desk = usual()
        self.assertEqual(desk.say("nth work 2024-12-25 09:00 0"), "2024-12-25 09:00")
        self.assertEqual(desk.say("nth work 2024-12-25 09:00 3"), "2024-12-30 09:00")
        for name, book in BOOKS.items():
            for text in MOMENTS:
                for many in ("0", "1", "10", "1440", FIFTY):
                    found = nth(book, read_moment(text), int(many))
                    self.assertEqual(desk.say(f"nth {name} {text} {many}"), shown(found))

    def test_gap(self):
        desk = usual()
        for name, book in BOOKS.items():
            answer = desk.say(f"gap {name}")
            if name == "never":
                self.assertEqual(answer, "never")
            else:
                length, blank, text = answer.partition(" ")
                moment = read_moment(text)
                self.assertEqual(length, str(greatest_gap(book)[0]))
                self.assertTrue(0 <= moment < ROUND and book.holds(moment))
                self.assertEqual(first_from(book, moment + 1), moment + int(length))
        self.assertEqual(desk.say("gap work").split(" ")[0], "4320")

    def test_clock(self):
        desk = usual()
        for number in ("0", "60", "-60", "720", "-720", "1", "-1"):
            self.assertEqual(desk.say(f"clock {number}"), "ok")
            for name, book in BOOKS.items():
                for text in MOMENTS:
                    ring = next_ring(Clock(int(number)), book, read_moment(text))
                    self.assertEqual(desk.say(f"ring {name} {text}"), shown(ring))
        self.assertEqual(desk.say("ring never 2024-12-25 09:00"), "never")
        desk.say("clock 90")
        self.assertEqual(desk.say("ring work 2024-12-25 07:00"), "2024-12-25 07:30")

    def test_put(self):
        desk = usual()
        spring, autumn = read_row(SPRING[1:-1]), read_row(AUTUMN[1:-1])
        desk.say("book half [30 1 * * *]")
        half = of("30 1 * * *")
        puts = []
        for number, row, text in ((60, spring, SPRING), (0, autumn, AUTUMN),
                                  (-720, read_row("0 0 1 6 *"), "[0 0 1 6 *]"),
                                  (720, read_row("0 0 15 6 *"), "[0 0 15 6 *]")):
            self.assertEqual(desk.say(f"put {number} {text}"), "ok")
            puts.append((row, number))
            clock = Shifted(puts)
            for moment in MOMENTS + ("2024-03-31 00:30", "2024-10-27 00:31", "2024-05-31 20:00", "2024-06-14 22:00"):
                self.assertEqual(desk.say(f"ring half {moment}"), shown(next_ring(clock, half, read_moment(moment))))
        with self.assertRaises(NoClock):
            desk.say("put 5 [0 0 1 8 *]")

    def test_the_example(self):
        desk = told([f"put 60 {SPRING}", f"put 0 {AUTUMN}", "book half [30 1 * * *]"])
        self.assertEqual(desk.say("ring half 2024-03-31 00:00"), "2024-03-31 01:00")
        self.assertEqual(desk.say("ring half 2024-10-27 00:00"), "2024-10-27 00:30")
        self.assertEqual(desk.say("ring half 2024-10-27 00:31"), "2024-10-28 01:30")

    def test_clock_forgets_the_puts(self):
        desk = told([f"put 60 {SPRING}", f"put 0 {AUTUMN}", "book half [30 1 * * *]", "clock 10"])
        self.assertEqual(desk.say("ring half 2024-07-01 00:00"), "2024-07-01 01:20")
        # Forgotten puts don't stand beside new ones: the same row may be told again.
        self.assertEqual(desk.say(f"put 30 {SPRING}"), "ok")
        self.assertEqual(desk.say("ring half 2024-07-01 00:00"), "2024-07-01 01:00")
        # The number of the clock row counts no more.
        self.assertEqual(desk.say("ring half 2024-02-01 00:00"), "2024-02-01 01:00")
        desk.say(f"put -30 {AUTUMN}")
        self.assertEqual(desk.say("ring half 2024-02-01 00:00"), "2024-02-01 02:00")
        self.assertEqual(desk.say("ring half 2024-07-01 00:00"), "2024-07-01 01:00")
        desk.say("clock 0")
        self.assertEqual(desk.say("ring half 2024-07-01 00:00"), "2024-07-01 01:30")

    def test_dropped_and_told_books_leave_the_clock(self):
        desk = told(["clock 60", f"book work {WORK}", "drop work", f"book work {WORK}"])
        self.assertEqual(desk.say("ring work 2024-12-25 00:00"), "2024-12-25 08:00")


class Refused(unittest.TestCase):
    def setUp(self):
        self.desk = usual()
        self.desk.say(f"put 60 {SPRING}")
        self.state = self.answers()

    def answers(self):
        rows = ["names", "ring work 2024-07-01 00:00", "ring work 2024-01-01 00:00"]
        return [self.desk.say(row) for row in rows + [f"show {name}" for name in BOOKS]]

    def refuse(self, row, kind, name=None):
        with self.subTest(row=row):
            with self.assertRaises(FieldError) as caught:
                self.desk.say(row)
            self.assertIs(type(caught.exception), kind)
            if kind is NoName:
                self.assertEqual(caught.exception.name, name)
            self.assertEqual(self.answers(), self.state)

    def test_what_is_no_text(self):
        for row in (None, 5, True, ["names"], ("names",), Desk(), {}):
            self.refuse(row, NoWord)

    def test_another_first_word(self):
        for row in ("", " ", "name", "Names", "NAMES", "ok", "books work none", "work", "help", "shows work",
                    "least work", "shared work feast 2024-12-25 09:00", "names\n", "names\t", "show\twork",
                    "book\twork none"):
            self.refuse(row, NoWord)

    def test_words_that_lack_or_are_too_many(self):
        whole = ("names", "drop work", "show work", "holds work 2024-12-25 09:00", "next work 2024-12-25 09:00",
                 "last work 2024-12-25 09:00", "against work feast", "parted work feast 2024-12-25 09:00",
                 "count work 2024-12-25 09:00 2024-12-26 09:00", "nth work 2024-12-25 09:00 5", "gap work", "clock 5",
                 "ring work 2024-12-25 09:00")
        for row in whole:
            words = row.split(" ")
            for many in range(1, len(words)):
                self.refuse(" ".join(words[:many]), NoWord)
                self.refuse(" ".join(words[:many]) + " ", NoWord)
            for more in ("work", "5", "2024-12-25 09:00", "x", "-"):
                self.refuse(f"{row} {more}", NoWord)
            self.refuse(f"{row} ", NoWord)
            self.refuse(f" {row}", NoWord)
            for place in range(1, len(words)):
                self.refuse(" ".join(words[:place]) + "  " + " ".join(words[place:]), NoWord)
        for row in ("book", "book ", "book work", "book  none", "book  work none", " book work none", "put", "put ",
                    "put 5", f"put  5 {SPRING}", f" put 5 {SPRING}", "put  ", f"put {SPRING}", "book none"):
            self.refuse(row, NoWord)

    def test_what_can_not_be_a_name(self):
        for name in ("or", "and", "but", "not", "none", "abcdefghi", "Work", "wOrk", "a1", "1", "a_b", "a-b", "*",
                     "[a]", "(work)", "work\n", "w\tk"):
            for row in (f"drop {name}", f"show {name}", f"holds {name} 2024-12-25 09:00", f"next {name} x y",
                        f"last {name} 2024-12-25 09:00", f"against {name} work", f"against work {name}",
                        f"against gone {name}", f"parted {name} work 2024-12-25 09:00",
                        f"parted work {name} 2024-12-25 09:00", f"count {name} 2024-12-25 09:00 x y",
                        f"nth {name} 2024-12-25 09:00 5", f"gap {name}", f"ring {name} 2024-12-25 09:00",
                        f"book {name} none", f"book {name} ", f"book {name} gone"):
                self.refuse(row, NoWord)

    def test_numbers_that_are_not_so_written(self):
        for number in ("007", "00", "01", "+5", "5.0", "1_000", "x", "0x5", "9" * 51, "1" + "0" * 50, "five", "1e3",
                       "5-", "--5", "-", "5\n", "\t5"):
            self.refuse(f"nth work 2024-12-25 09:00 {number}", NoWord)
            self.refuse(f"clock {number}", NoWord)
            self.refuse(f"put {number} {AUTUMN}", NoWord)
            self.refuse(f"clock -{number}", NoWord)
            # Ahead of all else that is wrong.
            self.refuse(f"nth gone 2024-13-25 09:00 {number}", NoWord)
            self.refuse(f"put {number} nothing", NoWord)
            self.refuse(f"put {number} ", NoWord)
        for number in ("-0", "-00", "-007", "-" + "9" * 51):
            self.refuse(f"clock {number}", NoWord)
            self.refuse(f"put {number} {AUTUMN}", NoWord)
        for number in ("-1", "-0", "-5"):
            self.refuse(f"nth work 2024-12-25 09:00 {number}", NoWord)

    def test_names_that_are_not_kept(self):
        for row in ("drop gone", "show gone", "holds gone 2024-12-25 09:00", "next gone 2024-12-25 09:00",
                    "last gone 2024-12-25 09:00", "against gone work", "against work gone", "against gone far",
                    "parted gone work 2024-12-25 09:00", "parted work gone 2024-12-25 09:00",
                    "count gone 2024-12-25 09:00 2024-12-26 09:00", "nth gone 2024-12-25 09:00 5", "gap gone",
                    "ring gone 2024-12-25 09:00", "book x gone", "book work work or gone", "book gone gone",
                    "book x (gone or far)"):
            self.refuse(row, NoName, "gone")
        self.desk.say("drop seldom")
        with self.assertRaises(NoName) as caught:
            self.desk.say("show seldom")
        self.assertEqual(caught.exception.name, "seldom")

    def test_an_unknown_name_comes_ahead_of_a_wrong_moment(self):
        for row in ("holds gone 2024-13-25 09:00", "next gone x y", "last gone 2024-12-25 24:00", "ring gone x y",
                    "parted work gone x y", "parted gone work x y", "count gone x y 2024-12-25 09:00",
                    "count gone 2024-12-25 09:00 x y", "nth gone x y 5"):
            self.refuse(row, NoName, "gone")

    def test_what_tells_no_moment(self):
        for moment in ("2024-13-25 09:00", "2024-02-30 09:00", "2023-02-29 09:00", "2024-12-25 24:00",
                       "2024-12-25 09:60", "x y", "09:00 2024-12-25", "2024-12-25 9:00", "-0-12-25 09:00",
                       "007-12-25 09:00",
                       "+2024-12-25 09:00", f"{FIFTY}9-12-25 09:00", "2024-12-25 09:00\n", "2024/12/25 09:00",
                       "work work"):
            for row in (f"holds work {moment}", f"next work {moment}", f"last work {moment}", f"ring work {moment}",
                        f"parted work feast {moment}", f"count work {moment} 2024-12-25 09:00",
                        f"count work 2024-12-25 09:00 {moment}", f"nth work {moment} 5", f"next never {moment}"):
                self.refuse(row, NoMoment)

    def test_what_is_no_book(self):
        for text in ("", " ", " none", "none ", "a or", "[60 9 * * *]", "work  or feast", "work or feast but all", "or",
                     "gone or", "(work", "abcdefghi", "\t", "not " * 11 + "gone"):
            self.refuse(f"book work {text}", NoBook)
            self.refuse(f"book x {text}", NoBook)
        self.refuse("book x " + " or ".join(["work"] * 9), NoBook)
        self.refuse("book x " + "not " * 5 + "work", NoBook)
        self.refuse("book x " + "not " * 5 + "gone", NoName, "gone")

    def test_a_put_without_one_row_in_brackets(self):
        for text in ("", " ", "[", "]", "[]", "x", "0 1 * 10 0L", f" {AUTUMN}", f"{AUTUMN} ", f"{AUTUMN}{AUTUMN}",
                     f"{AUTUMN} {AUTUMN}", "[60 1 * 10 0L]", "[0 1 * 10]", f"[{AUTUMN}]", f"({AUTUMN})",
                     f"not {AUTUMN}", "work", "none", f"{AUTUMN} or none", "[0 1 * 10 0L", "0 1 * 10 0L]", f"{AUTUMN}]",
                     f"{AUTUMN}\n",
                     "[0  1 * 10 0L]", "(", "()"):
            self.refuse(f"put 0 {text}", NoBook)
            # Ahead of a number that the clock refuses.
            self.refuse(f"put 721 {text}", NoBook)
            self.refuse(f"put -{FIFTY} {text}", NoBook)

    def test_what_the_clock_refuses(self):
        for number in ("721", "-721", FIFTY, "-" + FIFTY):
            self.refuse(f"clock {number}", NoClock)
            self.refuse(f"put {number} {AUTUMN}", NoClock)
        for row in ("[0 0 30 2 *]", "[* * * * *]", "[0 0 * * *]", SPRING, "[0 0 10,12 8 *]", "[0 2 * 3 0L]",
                    "[0 0 1 4 *]"):
            self.refuse(f"put 0 {row}", NoClock)
        # Behind a refused put others are taken as if it had never been told.
        self.assertEqual(self.desk.say(f"put 0 {AUTUMN}"), "ok")
        self.assertEqual(self.desk.say("ring work 2024-12-25 00:00"), "2024-12-25 09:00")

    def test_a_fifth_put(self):
        for month in (6, 7, 8):
            self.desk.say(f"put {month} [0 0 1 {month} *]")
        self.state = self.answers()
        self.refuse("put 9 [0 0 1 9 *]", NoClock)

    def test_a_refused_clock_forgets_no_put(self):
        self.refuse("clock 721", NoClock)
        self.refuse("clock -0", NoWord)
        self.refuse(f"put 5 {SPRING}", NoClock)

    def test_a_refused_book_keeps_the_old_one_and_its_place(self):
        self.refuse("book work gone", NoName, "gone")
        self.refuse("book work [", NoBook)
        self.refuse("book new gone", NoName, "gone")
        self.assertEqual(self.desk.say("names"), "work feast all never seldom")


if __name__ == "__main__":
    unittest.main()
