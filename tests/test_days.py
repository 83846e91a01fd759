"""[0.2], [1.2] to [1.6]: years, months, days and weekdays."""

import datetime
import unittest

from fivefields.days import date_of, day_of, days_before, is_long, last_of, weekday
from fivefields.errors import FieldError, NoDay

SHORT_YEAR = [31, 28, 31, 30, 31, 30, 31, 31, 30, 31, 30, 31]
LONG_YEAR = [31, 29, 31, 30, 31, 30, 31, 31, 30, 31, 30, 31]
LONGS = (0, 4, 8, 96, 104, 400, 1600, 1996, 2000, 2004, 2024, -4, -8, -96, -104, -396, -400, -404, -800)
SHORTS = (1, 2, 3, 5, 100, 200, 300, 500, 1900, 2001, 2023, 2100, -1, -2, -3, -5, -100, -200, -300, -399, -500)
# Four hundred years have this many days, so the calendar comes again by them.
ROUND_DAYS = 146097
FAR_ROUNDS = (10 ** 59 // ROUND_DAYS, -10 ** 59 // ROUND_DAYS, 10 ** 54, -10 ** 54, 1, -1)
NO_WHOLES = (True, False, "1", "", None, [1], (1,), {}, 1.0)


def lasts_of(year):
    return [last_of(year, month) for month in range(1, 13)]


def next_date(date):
    """The next date, by the lists of this file and the words of [1.2] alone."""
    year, month, day = date
    long = year % 400 == 0 or (year % 4 == 0 and year % 100 != 0)
    if day < (LONG_YEAR if long else SHORT_YEAR)[month - 1]:
        return (year, month, day + 1)
    if month < 12:
        return (year, month + 1, 1)
    return (year + 1, 1, 1)


class Years(unittest.TestCase):
    def test_the_documents_own_years(self):
        for year in (0, 4, 2000, -4, -400):
            self.assertIs(is_long(year), True, year)
        for year in (1, 1900, -100):
            self.assertIs(is_long(year), False, year)

    def test_long_years(self):
        for year in LONGS:
            for shift in (0, 400 * 10 ** 57, -400 * 10 ** 57):
                self.assertIs(is_long(year + shift), True, year + shift)

    def test_years_that_are_not_long(self):
        for year in SHORTS:
            for shift in (0, 400 * 10 ** 57, -400 * 10 ** 57):
                self.assertIs(is_long(year + shift), False, year + shift)

    def test_very_great_years(self):
        self.assertIs(is_long(10 ** 60), True)
        self.assertIs(is_long(-10 ** 60), True)
        self.assertIs(is_long(10 ** 60 - 1), False)
        self.assertIs(is_long(10 ** 60 - 100), False)
        self.assertIs(is_long(10 ** 60 - 4), True)

    def test_the_last_day_of_every_month(self):
        for year in LONGS + (10 ** 60, -10 ** 60):
            self.assertEqual(lasts_of(year), LONG_YEAR, year)
        for year in SHORTS + (10 ** 60 - 1, 1 - 10 ** 60):
            self.assertEqual(lasts_of(year), SHORT_YEAR, year)


class DaysBefore(unittest.TestCase):
    def test_the_documents_own_years(self):
        self.assertEqual(days_before(0), 0)
        self.assertEqual(days_before(1), 366)
        self.assertEqual(days_before(-1), -365)

    def test_neighbouring_years(self):
        for middle in (0, 100, 400, 2000, 2100, -100, -400, 4 * 10 ** 59, -4 * 10 ** 59, 10 ** 60, -10 ** 60):
            for year in range(middle - 12, middle + 12):
                length = sum(LONG_YEAR) if is_long(year) else sum(SHORT_YEAR)
                self.assertEqual(days_before(year + 1) - days_before(year), length, year)

    def test_all_years_of_some_rounds(self):
        days = days_before(-850)
        for year in range(-850, 850):
            self.assertEqual(days_before(year), days, year)
            days += 366 if is_long(year) else 365

    def test_whole_rounds(self):
        self.assertEqual(days_before(400), ROUND_DAYS)
        self.assertEqual(days_before(-400), -ROUND_DAYS)
        for rounds in FAR_ROUNDS:
            for year in (0, 1, 99, 100, 101, 399):
                self.assertEqual(days_before(400 * rounds + year), ROUND_DAYS * rounds + days_before(year))


class DaysAndDates(unittest.TestCase):
    def walk(self, first, date, many):
        """From a day and its date on, each next day's date is the next date, there and back."""
        for day in range(first, first + many):
            self.assertEqual(date_of(day), date)
            self.assertEqual(day_of(*date), day)
            date = next_date(date)

    def test_day_nought_and_its_neighbours(self):
        self.assertEqual(date_of(0), (0, 1, 1))
        self.assertEqual(date_of(1), (0, 1, 2))
        self.assertEqual(date_of(-1), (-1, 12, 31))
        self.assertEqual(day_of(0, 1, 1), 0)
        self.assertEqual(day_of(-1, 12, 31), -1)
        self.assertEqual(day_of(0, 2, 29), 59)
        self.assertEqual(day_of(0, 12, 31), 365)
        self.assertEqual(day_of(-1, 1, 1), -365)

    def test_a_date_is_a_tuple_of_whole_numbers(self):
        date = date_of(738000)
        self.assertIs(type(date), tuple)
        self.assertEqual([type(part) for part in date], [int, int, int])

    def test_every_day_of_a_round_on_either_side(self):
        self.walk(-ROUND_DAYS - 400, date_of(-ROUND_DAYS - 400), 2 * ROUND_DAYS + 800)
        self.assertEqual(date_of(-ROUND_DAYS), (-400, 1, 1))
        self.assertEqual(date_of(ROUND_DAYS), (400, 1, 1))

    def test_ends_of_years_februaries_and_hundreds_far_off(self):
        for rounds in FAR_ROUNDS:
            for year in (0, 1, 3, 4, 99, 100, 199, 200, 299, 300, 396, 399):
                for date in ((year, 1, 1), (year, 2, 27), (year, 12, 30)):
                    day = day_of(*date) + ROUND_DAYS * rounds
                    self.walk(day, (year + 400 * rounds, date[1], date[2]), 4)

    def test_about_very_great_days(self):
        for day in (10 ** 59, -10 ** 59, 10 ** 60, -10 ** 60):
            self.walk(day - 400, date_of(day - 400), 800)
            round_of_day = day // ROUND_DAYS
            near = date_of(day % ROUND_DAYS)
            self.assertEqual(date_of(day), (near[0] + 400 * round_of_day, near[1], near[2]))

    def test_very_great_years(self):
        for year in (10 ** 60, -10 ** 60):
            day = day_of(year, 1, 1)
            self.assertEqual(day, days_before(year))
            self.walk(day, (year, 1, 1), 400)

    def test_the_days_that_python_knows(self):
        first = datetime.date(1, 1, 1)
        for ordinal in range(0, datetime.date.max.toordinal(), 97):
            date = first + datetime.timedelta(days=ordinal)
            day = day_of(date.year, date.month, date.day)
            self.assertEqual(day, 366 + ordinal)
            self.assertEqual(date_of(day), (date.year, date.month, date.day))
            self.assertEqual(weekday(day), date.isoweekday() % 7)


class NoDays(unittest.TestCase):
    def refused(self, year, month, day):
        with self.assertRaises(FieldError) as taken:
            day_of(year, month, day)
        self.assertIs(type(taken.exception), NoDay, (year, month, day))

    def test_what_is_no_whole_number(self):
        for thing in NO_WHOLES:
            self.refused(thing, 1, 1)
            self.refused(2024, thing, 1)
            self.refused(2024, 1, thing)
            self.refused(thing, thing, thing)

    def test_months_that_there_are_not(self):
        for month in (0, 13, -1, 14, 10 ** 60, -10 ** 60):
            for day in (0, 1, 31, 32):
                self.refused(2024, month, day)

    def test_days_that_there_are_not(self):
        for year in (2023, 2024, 1900, 2000, 0, -1, -4, -100, 10 ** 60, 1 - 10 ** 60):
            lasts = LONG_YEAR if is_long(year) else SHORT_YEAR
            for month in range(1, 13):
                last = lasts[month - 1]
                for day in (0, -1, last + 1, 32, 10 ** 60, -10 ** 60):
                    self.refused(year, month, day)
                self.assertEqual(day_of(year, month, last) - day_of(year, month, 1), last - 1)

    def test_the_twenty_ninth_of_february(self):
        for year in LONGS:
            self.assertEqual(date_of(day_of(year, 2, 29)), (year, 2, 29))
            self.refused(year, 2, 30)
        for year in SHORTS:
            self.refused(year, 2, 29)


class Weekdays(unittest.TestCase):
    def test_day_nought_is_a_saturday(self):
        self.assertEqual(weekday(0), 6)

    def test_neighbouring_days(self):
        self.assertEqual([weekday(day) for day in range(-8, 9)], [5, 6, 0, 1, 2, 3, 4, 5, 6, 0, 1, 2, 3, 4, 5, 6, 0])

    def test_very_great_days(self):
        for weeks in (10 ** 59, -10 ** 59):
            self.assertEqual([weekday(7 * weeks + day) for day in range(8)], [6, 0, 1, 2, 3, 4, 5, 6])
        for day in (10 ** 60, -10 ** 60):
            self.assertEqual(weekday(day + 1), (weekday(day) + 1) % 7)
            self.assertEqual(weekday(day), weekday(day % 7))

    def test_known_weekdays(self):
        self.assertEqual(weekday(day_of(2000, 1, 1)), 6)
        self.assertEqual(weekday(day_of(2024, 2, 29)), 4)
        self.assertEqual(weekday(day_of(2026, 11, 16)), 1)


if __name__ == "__main__":
    unittest.main()
