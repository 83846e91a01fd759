"""[1.7], [1.8]: moments and their texts."""

import datetime
import unittest

from fivefields.days import date_of, day_of
from fivefields.errors import FieldError, NoMoment
from fivefields.moments import moment_of, parted, read_moment, show_moment

DAYS = (0, 1, -1, 59, 365, 366, -365, -366, 738000, 10 ** 56, -10 ** 56, 10 ** 60, -10 ** 60)
NO_WHOLES = (True, False, "1", "", None, [1], (1,), {}, 1.0)
NO_TEXTS = (None, True, 0, 1064000000, 1.5, ["2024-02-29 08:05"], ("2024-02-29 08:05",), {}, b"2024-02-29 08:05")


class Refusing(unittest.TestCase):
    def refused(self, asked, *things):
        with self.assertRaises(FieldError, msg=things) as taken:
            asked(*things)
        self.assertIs(type(taken.exception), NoMoment, things)


class Moments(Refusing):
    def test_moment_nought(self):
        self.assertEqual(moment_of(0, 0, 0), 0)
        self.assertEqual(parted(0), (0, 0, 0))

    def test_about_day_nought(self):
        self.assertEqual(moment_of(0, 23, 59), 1439)
        self.assertEqual(moment_of(1, 0, 0), 1440)
        self.assertEqual(moment_of(-1, 23, 59), -1)
        self.assertEqual(moment_of(-1, 0, 0), -1440)
        self.assertEqual(moment_of(0, 1, 0), 60)
        self.assertEqual(parted(-1), (-1, 23, 59))
        self.assertEqual(parted(-1440), (-1, 0, 0))
        self.assertEqual(parted(-1441), (-2, 23, 59))
        self.assertEqual(parted(1439), (0, 23, 59))
        self.assertEqual(parted(1440), (1, 0, 0))

    def test_there_and_back(self):
        for day in DAYS:
            for hour in range(24):
                for minute in (0, 1, 30, 58, 59):
                    moment = moment_of(day, hour, minute)
                    self.assertEqual(moment, 1440 * day + 60 * hour + minute)
                    self.assertEqual(parted(moment), (day, hour, minute))

    def test_every_minute_behind_another(self):
        for day in DAYS:
            parts = [parted(1440 * day + time) for time in range(1440)]
            self.assertEqual(parts, [(day, hour, minute) for hour in range(24) for minute in range(60)])

    def test_very_great_moments(self):
        for moment in (10 ** 60, -10 ** 60, 10 ** 60 - 1, 1 - 10 ** 60):
            self.assertEqual(moment_of(*parted(moment)), moment)

    def test_a_tuple_of_whole_numbers(self):
        self.assertIs(type(parted(77)), tuple)
        self.assertEqual([type(part) for part in parted(77)], [int, int, int])

    def test_what_is_no_whole_number(self):
        for thing in NO_WHOLES:
            self.refused(moment_of, thing, 1, 1)
            self.refused(moment_of, 1, thing, 1)
            self.refused(moment_of, 1, 1, thing)

    def test_hours_and_minutes_beyond_the_bounds(self):
        for hour in (-1, 24, 25, 10 ** 60, -10 ** 60):
            self.refused(moment_of, 0, hour, 0)
        for minute in (-1, 60, 61, 10 ** 60, -10 ** 60):
            self.refused(moment_of, 0, 0, minute)


class Texts(Refusing):
    def both_ways(self, text, moment):
        self.assertEqual(show_moment(moment), text)
        self.assertEqual(read_moment(text), moment)

    def test_the_documents_own_texts(self):
        self.both_ways("2024-02-29 08:05", moment_of(day_of(2024, 2, 29), 8, 5))
        self.both_ways("-44-03-15 11:30", moment_of(day_of(-44, 3, 15), 11, 30))

    def test_about_year_nought(self):
        self.both_ways("0-01-01 00:00", 0)
        self.both_ways("0-02-29 00:00", 59 * 1440)
        self.both_ways("-1-12-31 23:59", -1)
        self.both_ways("1-01-01 00:00", 366 * 1440)
        self.both_ways("0-12-31 23:59", 366 * 1440 - 1)
        self.both_ways("-4-02-29 10:10", moment_of(day_of(-4, 2, 29), 10, 10))

    def test_every_month_day_hour_and_minute(self):
        for moment in range(moment_of(day_of(2023, 12, 31), 0, 0), moment_of(day_of(2025, 1, 2), 0, 0), 37):
            day, hour, minute = parted(moment)
            year, month, of_month = date_of(day)
            text = datetime.datetime(year, month, of_month, hour, minute).strftime("%Y-%m-%d %H:%M")
            self.both_ways(text, moment)

    def test_years_of_fifty_figures(self):
        for figures in ("9" * 50, "1" + "0" * 49, "1234567890" * 5):
            for sign in ("", "-"):
                year = int(sign + figures)
                self.both_ways(f"{sign}{figures}-12-31 23:59", moment_of(day_of(year, 12, 31), 23, 59))
                self.both_ways(f"{sign}{figures}-01-01 00:00", moment_of(day_of(year, 1, 1), 0, 0))

    def test_years_of_more_figures_are_shown_but_not_read(self):
        for figures in ("1" + "0" * 50, "9" * 51, "4" * 60):
            for sign in ("", "-"):
                text = f"{sign}{figures}-06-15 12:34"
                self.assertEqual(show_moment(moment_of(day_of(int(sign + figures), 6, 15), 12, 34)), text)
                self.refused(read_moment, text)

    def test_however_long_the_year(self):
        for sign, year in (("", 10 ** 5000), ("-", -10 ** 5000)):
            self.assertEqual(show_moment(1440 * day_of(year, 1, 1)), sign + "1" + "0" * 5000 + "-01-01 00:00")
        self.refused(read_moment, "1" + "0" * 5000 + "-01-01 00:00")

    def test_dates_that_there_are_not(self):
        for date in ("2023-02-29", "2024-02-30", "1900-02-29", "-100-02-29", "2024-04-31", "2024-13-01", "2024-00-10",
                     "2024-01-00", "2024-01-32", "2024-99-99"):
            self.refused(read_moment, date + " 08:05")
            self.refused(read_moment, date + " 24:60")

    def test_times_that_there_are_not(self):
        for time in ("24:00", "25:00", "99:00", "00:60", "23:60", "00:99", "24:60"):
            self.refused(read_moment, "2024-02-29 " + time)

    def test_years_written_otherwise(self):
        for year in ("-0", "007", "00", "-00", "-07", "+7", "+2024", "--7", "", "-", "+", "2 024", "2_024", "20a4", "x",
                     "0x7", "7.", "1e3", "-+7", "\u0662"):
            self.refused(read_moment, year + "-02-28 08:05")

    def test_a_sign_too_many_or_too_few(self):
        for right in ("2024-02-29 08:05", "-44-03-15 11:30"):
            for place in range(len(right)):
                short = right[:place] + right[place + 1:]
                # A year that lacks a figure is another year, and a date of it may be there.
                if place > right.index("-", 1) - 1:
                    self.refused(read_moment, short)
            for place in range(right.index("-", 1), len(right) + 1):
                for sign in "0-: +x\t\n":
                    if not (place == right.index("-", 1) and sign == "0"):
                        self.refused(read_moment, right[:place] + sign + right[place:])

    def test_another_sign_in_each_place(self):
        right = "2024-02-28 08:05"
        for place, sign in enumerate(right):
            for other in "x :-/.,_T\t\n+\u0662":
                if other != sign and not (place == 0 and other == "-"):
                    self.refused(read_moment, right[:place] + other + right[place + 1:])

    def test_letters_in_the_place_of_figures(self):
        for text in ("abcd-02-29 08:05", "2024-ab-29 08:05", "2024-02-ab 08:05", "2024-02-29 ab:05",
                     "2024-02-29 08:ab", "2024-Feb-29 08:05", "2024-02-29 8h:05"):
            self.refused(read_moment, text)

    def test_one_or_three_figures_in_the_place_of_two(self):
        for text in ("2024-2-29 08:05", "2024-002-29 08:05", "2024-03-9 08:05", "2024-02-029 08:05", "2024-02-29 8:05",
                     "2024-02-29 008:05", "2024-02-29 08:5", "2024-02-29 08:005"):
            self.refused(read_moment, text)

    def test_other_signs_between(self):
        for text in ("2024/02/29 08:05", "2024-02-29T08:05", "2024-02-29-08:05", "2024-02-29 08-05", "2024-02-29 08.05",
                     "2024:02:29 08:05", "2024 02 29 08 05", "2024-02-29\t08:05", "2024-02-29\n08:05"):
            self.refused(read_moment, text)

    def test_blanks_tabs_and_line_ends(self):
        for blank in (" ", "\t", "\n", "\r\n"):
            for right in ("2024-02-29 08:05", "-44-03-15 11:30"):
                self.refused(read_moment, blank + right)
                self.refused(read_moment, right + blank)
                for place in range(len(right)):
                    self.refused(read_moment, right[:place] + blank + right[place:])

    def test_texts_without_more(self):
        for text in ("", " ", "0", "2024", "2024-02-29", "08:05", "-02-29 08:05", "2024-02-29 ", "2024-02-29 08:05:00",
                     "-2024", "- -02-29 08:05", "02-29 08:05"):
            self.refused(read_moment, text)

    def test_what_is_no_text(self):
        for thing in NO_TEXTS:
            self.refused(read_moment, thing)


if __name__ == "__main__":
    unittest.main()
