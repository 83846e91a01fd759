"""[0.2], [4.1] to [4.6]: rows."""

import random
import unittest

from fivefields.days import date_of, day_of, weekday
from fivefields.errors import FieldError, NoRow
from fivefields.fields import mask_of, numbers_in
from fivefields.marks import any_days, read_days, read_weekdays
from fivefields.moments import moment_of, parted, read_moment
from fivefields.months import kind_of, month_at
from fivefields.rows import Row, read_row

KINDS = range(91)
# The calendar comes again by these minutes.
ROUND = 210379680
ROUNDS = (0, 1, -1, 10 ** 59 // ROUND, -10 ** 59 // ROUND)
NO_TEXTS = (None, True, False, 0, 5, 1.5, [], ["0 0 * * *"], ("0", "0", "*", "*", "*"), {}, b"0 0 * * *")
TEXTS = ("* * * * *", "0 9 * * 1-5", "*/15 8-17 1,15 * *", "5 4 L * 5L", "0 0 29 2 *", "59 23 31 12 7", "0 0 *,5 * 1",
         "0 0 LW,15W 2,4 1#5,7#1", "7/9 */5 L-3 1/5 *", "0 0 30 2 *", "10-20/3 0 * 3-5 *,1", "0 0 */1 * */1")


def all_of(last):
    return mask_of(list(range(1, last + 1)))


def some_text(chance):
    """A row's text by chance."""
    minutes = ["*", "0", "59", "*/7", "10-20", "3/11", "0,30", "1-59/2"]
    hours = ["*", "0", "23", "*/5", "9-17", "8/4", "6,18", "1-22/3"]
    days = ["*", "*", "*,5", "1", "31", "29-31", "L", "LW", "L-30", "15W", "1W,31W", "1/6", "13,L-2"]
    months = ["*", "*", "2", "1-3", "12", "*/5", "4,6,9,11", "2-12/2"]
    weekdays = ["*", "*", "*,1", "0", "7", "1-5", "5L", "1#5", "7#1", "6,2#3", "5/2", "0L,3#5"]
    return " ".join(chance.choice(words) for words in (minutes, hours, days, months, weekdays))


class Reading(unittest.TestCase):
    def test_a_row(self):
        row = read_row("5,7 9-10 1 2-3 *")
        self.assertIs(type(row), Row)
        self.assertEqual(numbers_in(row.minutes()), [5, 7])
        self.assertEqual(numbers_in(row.hours()), [9, 10])
        self.assertEqual(numbers_in(row.months()), [2, 3])

    def test_masks_of_all(self):
        row = read_row("* * * * *")
        self.assertEqual(row.minutes(), 2 ** 60 - 1)
        self.assertEqual(row.hours(), 2 ** 24 - 1)
        self.assertEqual(row.months(), 2 ** 13 - 2)
        self.assertEqual(row.times(), 2 ** 1440 - 1)

    def test_bounds_of_the_fields(self):
        row = read_row("0,59 0,23 1,31 1,12 0,7")
        self.assertEqual(numbers_in(row.minutes()), [0, 59])
        self.assertEqual(numbers_in(row.hours()), [0, 23])
        self.assertEqual(numbers_in(row.months()), [1, 12])

    def test_times(self):
        chance = random.Random(43)
        for text in TEXTS + tuple(some_text(chance) for turn in range(60)):
            row = read_row(text)
            times = {60 * hour + minute for hour in range(24) for minute in range(60)
                     if row.hours() >> hour & 1 and row.minutes() >> minute & 1}
            self.assertEqual(row.times(), sum(2 ** time for time in times))

    def test_times_by_hand(self):
        self.assertEqual(read_row("0 0 * * *").times(), 1)
        self.assertEqual(read_row("59 23 * * *").times(), 2 ** 1439)
        self.assertEqual(numbers_in(read_row("5,6 1,3 * * *").times()), [65, 66, 185, 186])


class Refusing(unittest.TestCase):
    def refused(self, text, place):
        with self.assertRaises(FieldError, msg=text) as taken:
            read_row(text)
        self.assertIs(type(taken.exception), NoRow)
        self.assertEqual(taken.exception.place, place, text)

    def test_what_is_no_text(self):
        for thing in NO_TEXTS + (read_row("* * * * *"),):
            self.refused(thing, 5)

    def test_not_just_five_words(self):
        for text in ("", " ", "    ", "*", "* * * *", "* * * * * *", "x", "x x x x", "x x x x x x", "* * * * x *"):
            self.refused(text, 5)

    def test_blanks_too_many(self):
        for text in ("*  * * * *", "* * * *  *", " * * * * *", "* * * * * ", "  * * * *", "* * * *  ", " * * * *",
                     "* * * * ", "*  * * *", "x  * * * *", "60 * * * * ", " 60 * * * *"):
            self.refused(text, 5)

    def test_a_tab_is_a_sign_of_a_word(self):
        self.refused("*\t* * * *", 5)
        self.refused("*\t*\t*\t*\t*", 5)
        self.refused("*\t * * * *", 0)
        self.refused("* *\t * * *", 1)
        self.refused("* * \t * *", 2)
        self.refused("* * * *\t* *", 3)
        self.refused("* * * * *\t", 4)
        self.refused("* * * * *\n", 4)
        self.refused("\n* * * * *", 0)
        self.refused("* * * *\n*", 5)

    def test_sixteen_hundred_signs(self):
        wide = "x" * 1592
        self.assertEqual(len(wide + " * * * *"), 1600)
        self.refused(wide + " * * * *", 0)
        self.refused("x" + wide + " * * * *", 5)
        self.refused("* * * * " + wide, 4)
        self.refused("* * * * x" + wide, 5)
        self.refused("*" * 1601, 5)
        self.refused("60" + " *" * 5000, 5)

    def test_each_field_wrong(self):
        for place, wrongs in enumerate((
                ("60", "x", "5-1", "00", "L", "5W", "*/0", "1,,2", ",", "5L", "?"),
                ("24", "x", "5-1", "00", "LW", "1#1", "*/100", "1,"),
                ("0", "32", "x", "5-1", "01", "5L", "5#2", "l", "L-31", "0W"),
                ("0", "13", "x", "5-1", "01", "L", "jan", "1,13"),
                ("8", "x", "5-1", "01", "L", "LW", "15W", "5#6", "5l", "mon"))):
            for wrong in wrongs:
                words = ["*", "*", "*", "*", "*"]
                words[place] = wrong
                self.refused(" ".join(words), place)

    def test_two_wrong_at_once(self):
        for place in range(5):
            for later in range(place + 1, 5):
                words = ["1", "1", "1", "1", "1"]
                words[place] = "x"
                words[later] = "99"
                self.refused(" ".join(words), place)
        self.refused("x x x x x", 0)

    def test_fields_too_long_and_of_too_many_items(self):
        for place in range(5):
            for wrong in ("9" * 301, ",".join(["1"] * 41), ",".join(["1"] * 151)):
                words = ["1", "1", "1", "1", "1"]
                words[place] = wrong
                self.refused(" ".join(words), place)
        self.refused("* * " + ",".join(["L"] * 21) + " * *", 2)
        self.refused("* * * * " + ",".join(["5L"] * 21), 4)
        read_row(" ".join([",".join(["1"] * 40)] * 5))


class DaysIn(unittest.TestCase):
    def test_both_fields_stars(self):
        row = read_row("0 0 * * *")
        for kind in KINDS:
            self.assertEqual(row.days_in(kind), all_of(month_at(kind)[1]))

    def test_each_choice_of_stars(self):
        for days in ("*", "*,5", "1,15,31", "L", "LW,15W", "L-29", "31"):
            for weekdays in ("*", "*,1", "1-5", "7", "5L,1#5", "2#5"):
                row = read_row(f"0 0 {days} * {weekdays}")
                for kind in KINDS:
                    month, last, first = month_at(kind)
                    told = 0
                    if days != "*":
                        told |= any_days(read_days(days), last, first)
                    if weekdays != "*":
                        told |= any_days(read_weekdays(weekdays), last, first)
                    if days == "*" and weekdays == "*":
                        told = all_of(last)
                    self.assertEqual(row.days_in(kind), told, (days, weekdays, kind))

    def test_the_documents_own_row(self):
        row = read_row("0 0 *,5 * 1")
        for kind in KINDS:
            self.assertEqual(row.days_in(kind), all_of(month_at(kind)[1]))
        row = read_row("0 0 5 * *,1")
        for kind in KINDS:
            self.assertEqual(row.days_in(kind), all_of(month_at(kind)[1]))

    def test_by_hand(self):
        # November 2026 begins with a Sunday.
        kind = kind_of(2026, 11)
        self.assertEqual(numbers_in(read_row("0 0 13 * *").days_in(kind)), [13])
        self.assertEqual(numbers_in(read_row("0 0 * * 5").days_in(kind)), [6, 13, 20, 27])
        self.assertEqual(numbers_in(read_row("0 0 1,13 * 5").days_in(kind)), [1, 6, 13, 20, 27])
        self.assertEqual(numbers_in(read_row("0 0 31 * *").days_in(kind)), [])
        self.assertEqual(numbers_in(read_row("0 0 31 * 1L").days_in(kind)), [30])

    def test_months_that_the_row_lacks(self):
        for months in ("2", "1,3,5", "4-12", "12"):
            numbers = numbers_in(read_row(f"0 0 * {months} *").months())
            for days, weekdays in (("*", "*"), ("1", "*"), ("*", "1"), ("1", "1")):
                row = read_row(f"0 0 {days} {months} {weekdays}")
                for kind in KINDS:
                    self.assertEqual(row.days_in(kind) != 0, month_at(kind)[0] in numbers)

    def test_februaries(self):
        row = read_row("0 0 29 2 *")
        for kind in KINDS:
            self.assertEqual(numbers_in(row.days_in(kind)), [29] if kind >= 84 else [])


class OnDays(unittest.TestCase):
    def test_the_times_of_each_day(self):
        for text in TEXTS:
            row = read_row(text)
            for kind in KINDS:
                days = row.days_in(kind)
                told = [row.times() if days >> day & 1 else 0 for day in range(1, month_at(kind)[1] + 1)]
                self.assertEqual(row.on_days(kind), told, (text, kind))

    def test_told_lists_are_the_askers_own(self):
        row = read_row("0 9 * * 1-5")
        told = row.on_days(0)
        self.assertIsNot(row.on_days(0), told)
        told.clear()
        self.assertEqual(len(row.on_days(0)), 31)


class Holding(unittest.TestCase):
    def shut(self, text, moment, word):
        row = read_row(text)
        for rounds in ROUNDS:
            shifted = read_moment(moment) + ROUND * rounds
            self.assertEqual(row.shut_by(shifted), word, (text, moment))
            self.assertIs(row.holds(shifted), word is None)

    def test_each_field_that_shuts_alone(self):
        # 2024-02-29 is a Thursday.
        self.shut("5 8 29 2 *", "2024-02-29 08:05", None)
        self.shut("5 8 29 3 *", "2024-02-29 08:05", "month")
        self.shut("5 8 28 2 *", "2024-02-29 08:05", "day")
        self.shut("5 8 * 2 5", "2024-02-29 08:05", "day")
        self.shut("5 9 29 2 *", "2024-02-29 08:05", "hour")
        self.shut("6 8 29 2 *", "2024-02-29 08:05", "minute")

    def test_fields_that_shut_together(self):
        self.shut("6 9 28 3 *", "2024-02-29 08:05", "month")
        self.shut("6 8 29 3 *", "2024-02-29 08:05", "month")
        self.shut("5 9 30 3 *", "2024-02-29 08:05", "month")
        self.shut("6 9 28 2 *", "2024-02-29 08:05", "day")
        self.shut("5 9 28 2 *", "2024-02-29 08:05", "day")
        self.shut("6 8 28 2 *", "2024-02-29 08:05", "day")
        self.shut("6 9 29 2 *", "2024-02-29 08:05", "hour")

    def test_the_two_day_fields(self):
        self.shut("5 8 28 2 4", "2024-02-29 08:05", None)
        self.shut("5 8 29 2 5", "2024-02-29 08:05", None)
        self.shut("5 8 28 2 5", "2024-02-29 08:05", "day")
        self.shut("5 8 *,28 2 5", "2024-02-29 08:05", None)
        self.shut("5 8 * * 4#5", "2024-02-29 08:05", None)
        self.shut("5 8 * * 4#4", "2024-02-29 08:05", "day")

    def test_moments_below_nought(self):
        # 0-01-01 is a Saturday, so -1-12-31 is a Friday.
        self.shut("59 23 31 12 *", "-1-12-31 23:59", None)
        self.shut("59 23 * * 5L", "-1-12-31 23:59", None)
        self.shut("0 0 31 12 *", "-1-12-31 23:59", "hour")
        self.shut("0 0 1 1 *", "0-01-01 00:00", None)
        self.assertIs(read_row("59 23 31 12 5").holds(-1), True)
        self.assertIs(read_row("0 0 1 1 6").holds(0), True)

    def test_against_the_words_of_the_document(self):
        chance = random.Random(45)
        for turn in range(150):
            text = some_text(chance)
            row = read_row(text)
            words = text.split(" ")
            for turn_too in range(40):
                start = chance.choice((0, 10 ** 59, -10 ** 59, 10 ** 60 - 10 ** 9, -10 ** 60))
                moment = start + chance.randint(0, 10 ** 9)
                day, hour, minute = parted(moment)
                year, month, of_month = date_of(day)
                kind = kind_of(year, month)
                shutting = []
                if not row.months() >> month & 1:
                    shutting.append("month")
                elif not self.day_told(words, year, month, of_month):
                    shutting.append("day")
                if not row.hours() >> hour & 1:
                    shutting.append("hour")
                if not row.minutes() >> minute & 1:
                    shutting.append("minute")
                self.assertEqual(row.shut_by(moment), shutting[0] if shutting else None, (text, moment))
                holds = row.days_in(kind) >> of_month & 1 and row.times() >> (60 * hour + minute) & 1
                self.assertIs(row.holds(moment), holds == 1)

    def day_told(self, words, year, month, of_month):
        last = month_at(kind_of(year, month))[1]
        first = weekday(day_of(year, month, 1))
        told = 0
        if words[2] != "*":
            told |= any_days(read_days(words[2]), last, first)
        if words[4] != "*":
            told |= any_days(read_weekdays(words[4]), last, first)
        return words[2] == words[4] == "*" or told >> of_month & 1 == 1

    def test_all_minutes_of_some_days(self):
        row = read_row("*/7 5-9 1 1 *")
        for day in (day_of(2026, 1, 1), day_of(-3, 1, 1)):
            held = [time for time in range(1440) if row.holds(1440 * day + time)]
            self.assertEqual(held, numbers_in(row.times()))
            self.assertEqual([time for time in range(1440) if row.holds(1440 * (day + 1) + time)], [])

    def test_very_great_moments(self):
        row = read_row("5 8 * * 4")
        for day in (10 ** 56, -10 ** 56):
            thursday = day + (4 - weekday(day)) % 7
            self.assertIs(row.holds(moment_of(thursday, 8, 5)), True)
            self.assertEqual(row.shut_by(moment_of(thursday, 8, 6)), "minute")
            self.assertEqual(row.shut_by(moment_of(thursday + 1, 8, 6)), "day")


class Showing(unittest.TestCase):
    def test_by_hand(self):
        for text, shown in (
                ("* * * * *", "* * * * *"),
                ("0 9 * * 1-5", "0 9 * * 1-5"),
                ("*/20 8-10,9-12 5/13,L * 5/2", "0,20,40 8-12 5,18,31,L * 0,5"),
                ("*/1 0-23 */1 1-12 */1", "* * 1-31 * 0-6"),
                ("0 0 *,5 * 7#1,1", "0 0 1-31 * 1,0#1"),
                ("59-59 23/5 L-3,2 2-2 7L", "59 23 2,L-3 2 0L")):
            self.assertEqual(read_row(text).shown(), shown)

    def test_shown_rows_read_again(self):
        chance = random.Random(46)
        widest = " ".join(["1/2", "1/2", ",".join(["L-30"] * 20 + ["1/2"]), "1/2", ",".join(["7#5"] * 20 + ["*/2"])])
        for text in TEXTS + (widest,) + tuple(some_text(chance) for turn in range(200)):
            row = read_row(text)
            again = read_row(row.shown())
            self.assertEqual(again.shown(), row.shown())
            self.assertEqual(again.times(), row.times())
            self.assertEqual(again.months(), row.months())
            self.assertEqual([again.days_in(kind) for kind in KINDS], [row.days_in(kind) for kind in KINDS], text)
            for turn in range(10):
                moment = chance.randint(-10 ** 9, 10 ** 9)
                self.assertEqual(again.shut_by(moment), row.shut_by(moment))


if __name__ == "__main__":
    unittest.main()
