"""The calendar: years, months and days, without end both ways."""

from fivefields.errors import NoDay
from fivefields.wholes import is_whole

MONTH_LASTS = (31, 28, 31, 30, 31, 30, 31, 31, 30, 31, 30, 31)
ROUND_YEARS = 400
ROUND_DAYS = 146097


def is_long(year):
    """Whether a year has 366 days."""
    return year % 4 == 0 and (year % 100 != 0 or year % 400 == 0)


def multiples_before(year, step):
    """How many years from 0 to the one ahead of this one the step divides, below 0 counted as less than none."""
    return (year + step - 1) // step


def days_before(year):
    """How many days lie from day 0 to the year's first day."""
    longs = multiples_before(year, 4) - multiples_before(year, 100) + multiples_before(year, 400)
    return 365 * year + longs


def last_of(year, month):
    """How many days a month has."""
    if month == 2 and is_long(year):
        return 29
    return MONTH_LASTS[month - 1]


def is_date(year, month, day):
    """Whether three things, of whatever kind, are a date."""
    if not (is_whole(year) and is_whole(month) and is_whole(day)):
        return False
    return 1 <= month <= 12 and 1 <= day <= last_of(year, month)


def day_of(year, month, day):
    """The day of a date; refused with NoDay where there is no such date."""
    if not is_date(year, month, day):
        raise NoDay("no such date")
    ahead = sum([last_of(year, earlier) for earlier in range(1, month)])
    return days_before(year) + ahead + day - 1


def year_of(day):
    """The year in which a day lies."""
    # No year has more than 366 days, so the first guess is never too late, and within one round hardly too early.
    year = day // ROUND_DAYS * ROUND_YEARS + day % ROUND_DAYS // 366
    while days_before(year + 1) <= day:
        year = year + 1
    return year


def date_of(day):
    """The date of a day: a tuple (year, month, day of the month)."""
    year = year_of(day)
    month = 1
    rest = day - days_before(year)
    while rest >= last_of(year, month):
        rest = rest - last_of(year, month)
        month = month + 1
    return (year, month, rest + 1)


def weekday(day):
    """The weekday of a day, 0 for Sunday to 6 for Saturday."""
    # Day 0 is a Saturday.
    return (day + 6) % 7
