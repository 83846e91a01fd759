"""[0.6], [3.1], [3.2]: the ninety-one kinds of months."""

import datetime
import unittest

from fivefields.days import day_of, is_long, last_of, weekday
from fivefields.months import KINDS as ALL_KINDS
from fivefields.months import kind_of, month_at, month_before, months_of_round, next_month, next_of_kind

SHORT_YEAR = [31, 28, 31, 30, 31, 30, 31, 31, 30, 31, 30, 31]
KINDS = range(91)
FROM_YEARS = (0, 1, -1, 4, 1890, 1899, 1900, 1901, 1904, 2000, 2001, 2024, 2095, 2096, 2097, 2100, 2199, 2299, 2300,
              -5, -100, -97, -101, -104, -205, -400, -399, 10 ** 57 - 3, -10 ** 57 - 103, 10 ** 60, -10 ** 60)


def is_long_february(kind):
    return kind >= 84


class Kinds(unittest.TestCase):
    def test_some_months_by_hand(self):
        # 0-01-01 and 2000-01-01 are Saturdays, 2024-02-01 a Thursday, 2026-02-01 and 2026-11-01 Sundays.
        self.assertEqual(kind_of(0, 1), 6)
        self.assertEqual(kind_of(2000, 1), 6)
        self.assertEqual(kind_of(2024, 2), 88)
        self.assertEqual(kind_of(2026, 2), 7)
        self.assertEqual(kind_of(2026, 11), 70)
        self.assertEqual(kind_of(0, 2), 7 * 12 + 2)
        self.assertEqual(kind_of(-1, 12), 77 + 3)

    def test_the_months_that_python_knows(self):
        for year in range(1, 802):
            for month in range(1, 13):
                place = 12 if month == 2 and is_long(year) else month - 1
                first = datetime.date(year, month, 1).isoweekday() % 7
                self.assertEqual(kind_of(year, month), 7 * place + first)

    def test_the_kinds_come_again_by_rounds(self):
        for year in (0, 1, 4, 99, 100, 200, 300, 396, 399):
            for month in range(1, 13):
                for rounds in (-1, -2, -10 ** 57, 10 ** 57):
                    self.assertEqual(kind_of(year + 400 * rounds, month), kind_of(year, month))

    def test_every_kind_comes_and_no_other(self):
        kinds = {kind_of(year, month) for year in range(-400, 0) for month in range(1, 13)}
        self.assertEqual(kinds, set(KINDS))

    def test_month_at_all_kinds(self):
        for kind in KINDS:
            place, first = divmod(kind, 7)
            told = (2, 29, first) if place == 12 else (place + 1, SHORT_YEAR[place], first)
            self.assertEqual(month_at(kind), told)
            self.assertIs(type(month_at(kind)), tuple)

    def test_month_at_the_kind_of_a_month(self):
        for middle in (0, 1900, 2000, -100, -400, 10 ** 60, -10 ** 60):
            for year in range(middle - 6, middle + 6):
                for month in range(1, 13):
                    told = (month, last_of(year, month), weekday(day_of(year, month, 1)))
                    self.assertEqual(month_at(kind_of(year, month)), told)


class Neighbours(unittest.TestCase):
    def test_the_months_of_some_years_there_and_back(self):
        for first in (0, 2024, -3, 10 ** 60, -10 ** 60):
            months = [(year, month) for year in (first, first + 1) for month in range(1, 13)]
            for one, other in zip(months, months[1:]):
                self.assertEqual(next_month(*one), other)
                self.assertEqual(month_before(*other), one)

    def test_how_many_kinds(self):
        self.assertEqual(ALL_KINDS, len(KINDS))


class NextOfKind(unittest.TestCase):
    def holds_for(self, kind, year):
        month = month_at(kind)[0]
        told = next_of_kind(kind, year)
        self.assertGreaterEqual(told, year)
        self.assertLess(told - year, 40 if is_long_february(kind) else 12)
        self.assertEqual(kind_of(told, month), kind)
        for between in range(told - year):
            self.assertNotEqual(kind_of(year + between, month), kind)

    def test_each_kind_from_several_years_on(self):
        for kind in KINDS:
            for year in FROM_YEARS:
                self.holds_for(kind, year)

    def test_each_kind_from_each_year_of_a_round_on(self):
        for kind in KINDS:
            for year in range(-200, 200):
                self.holds_for(kind, year)

    def test_the_year_itself_counts(self):
        for year in FROM_YEARS:
            for month in range(1, 13):
                self.assertEqual(next_of_kind(kind_of(year, month), year), year)

    def test_some_years_by_hand(self):
        # The Februaries of 1872 and 1912 begin with a Thursday, and 29 days; none between them does.
        self.assertEqual(next_of_kind(88, 1872), 1872)
        self.assertEqual(next_of_kind(88, 1873), 1912)
        self.assertEqual(next_of_kind(88, 2024), 2024)
        self.assertEqual(next_of_kind(88, 2025), 2052)
        self.assertEqual(next_of_kind(6, 2001), 2005)
        self.assertEqual(next_of_kind(6, -1), 0)

    def test_how_soon_each_kind_comes_again(self):
        for kind in KINDS:
            month = month_at(kind)[0]
            most = 14609 if is_long_february(kind) else 4382
            year = next_of_kind(kind, -420)
            while year < 20:
                later = next_of_kind(kind, year + 1)
                self.assertLessEqual(day_of(later, month, 1) - day_of(year, month, 1), most)
                year = later


class Round(unittest.TestCase):
    def test_its_months(self):
        months = [(year, month) for year in range(400) for month in range(1, 13)]
        self.assertEqual(months_of_round(), [(day_of(year, month, 1), kind_of(year, month)) for year, month in months])


if __name__ == "__main__":
    unittest.main()
