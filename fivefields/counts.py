"""Counts: how many moments a book has between two moments, and which one is the so-many-th."""

from fivefields.days import ROUND_YEARS, date_of, day_of, days_before, is_long, weekday
from fivefields.moments import DAY_MINUTES
from fivefields.months import kind_of

# The minutes of 400 years, by which the calendar comes again with its weekdays.
ROUND = 210379680


def pairs_added(mask, width):
    """A mask whose parts, of width bits each, are added two by two into parts of twice the width."""
    size = 2 * width * (mask.bit_length() // (2 * width) + 1)
    # All bits of every other part, the lowest one among them.
    evens = ((1 << size) - 1) // ((1 << width) + 1)
    return (mask & evens) + ((mask >> width) & evens)


def many_in(mask):
    """How many numbers a mask has."""
    # Bit by bit this takes too long for the times of all kinds of months.
    size = mask.bit_length()
    width = 1
    while width < size:
        mask = pairs_added(mask, width)
        width = 2 * width
    return mask


def nth_in(mask, many):
    """The number of a mask that has so many others of it below."""
    place = 0
    width = DAY_MINUTES
    while width > 1:
        half = width // 2
        lower = mask & ((1 << half) - 1)
        below = many_in(lower)
        if many < below:
            mask = lower
            width = half
        else:
            mask = mask >> half
            many = many - below
            place = place + half
            width = width - half
    return place


class Tallies:
    """How many moments a book has in the months and years that are asked for, each kind of them reckoned once."""

    def __init__(self, book):
        self.book = book
        self.known_months = {}
        self.known_times = {}
        self.known_years = {}

    def days_of(self, year, month):
        """The times of the book on each day of a month."""
        kind = kind_of(year, month)
        if kind not in self.known_months:
            self.known_months[kind] = self.book.on_days(kind)
        return self.known_months[kind]

    def in_days(self, days):
        """How many moments there are in a list of the times of days."""
        for times in days:
            if times not in self.known_times:
                self.known_times[times] = many_in(times)
        return sum([self.known_times[times] for times in days])

    def in_month(self, year, month):
        return self.in_days(self.days_of(year, month))

    def in_year(self, year):
        key = (is_long(year), weekday(days_before(year)))
        if key not in self.known_years:
            self.known_years[key] = sum([self.in_month(year, month) for month in range(1, 13)])
        return self.known_years[key]

    def in_years(self, year, many):
        """How many moments so many years have, from that one on."""
        rounds = many // ROUND_YEARS
        rest = sum([self.in_year(year + step) for step in range(many % ROUND_YEARS)])
        if rounds == 0:
            return rest
        return rest + rounds * sum([self.in_year(step) for step in range(ROUND_YEARS)])

    def ahead_of(self, moment):
        """How many moments lie from the first minute of its year on ahead of a moment."""
        date = date_of(moment // DAY_MINUTES)
        months = sum([self.in_month(date[0], month) for month in range(1, date[1])])
        days = self.days_of(date[0], date[1])
        place = date[2] - 1
        passed = days[place] & ((1 << (moment % DAY_MINUTES)) - 1)
        return months + self.in_days(days[:place]) + many_in(passed)


def year_at(moment):
    """The year of a moment."""
    return date_of(moment // DAY_MINUTES)[0]


def count(book, begin, end):
    """How many moments of a book there are from begin to end - 1."""
    if end <= begin:
        return 0
    tallies = Tallies(book)
    year = year_at(begin)
    years = tallies.in_years(year, year_at(end) - year)
    return years + tallies.ahead_of(end) - tallies.ahead_of(begin)


def in_round(book):
    """How many moments a book has in any 400 years one behind the other."""
    return Tallies(book).in_years(0, ROUND_YEARS)


def nth_of_month(days, many):
    """The minute of a month, by the times of its days, that has so many others of them ahead."""
    place = 0
    while many >= many_in(days[place]):
        many = many - many_in(days[place])
        place = place + 1
    return DAY_MINUTES * place + nth_in(days[place], many)


def nth_of_years(tallies, year, many):
    """The moment that has so many others ahead of it from the first minute of a year on, fewer than a round has."""
    while many >= tallies.in_year(year):
        many = many - tallies.in_year(year)
        year = year + 1
    month = 1
    while many >= tallies.in_month(year, month):
        many = many - tallies.in_month(year, month)
        month = month + 1
    return DAY_MINUTES * day_of(year, month, 1) + nth_of_month(tallies.days_of(year, month), many)


def nth(book, moment, many):
    """The moment of a book that has so many others of it from a moment on ahead, None where the book never holds."""
    tallies = Tallies(book)
    total = tallies.in_years(0, ROUND_YEARS)
    if total == 0:
        return None
    many = many + tallies.ahead_of(moment)
    year = year_at(moment) + ROUND_YEARS * (many // total)
    return nth_of_years(tallies, year, many % total)
