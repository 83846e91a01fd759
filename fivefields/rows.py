"""Rows: sets of moments told by five fields."""

from fivefields.days import date_of
from fivefields.errors import NoField, NoRow
from fivefields.fields import numbers_in, read_field, shown_field
from fivefields.marks import all_days, any_days, read_days, read_weekdays, shown_marks
from fivefields.moments import HOUR_MINUTES, parted
from fivefields.months import kind_of, month_at
from fivefields.ranges import has

MOST_ROW_SIGNS = 1600
# The places of the fields in a row's text; behind them that of what is no row at all.
MINUTE = 0
HOUR = 1
DAY = 2
MONTH = 3
WEEKDAY = 4
NO_PLACE = 5
# The low and the high number of each field but the days, by its place.
BOUNDS = {0: (0, 59), 1: (0, 23), 3: (1, 12)}


def times_of(hours, minutes):
    """The mask of the times of a day of each of some hours with each of some minutes."""
    times = 0
    for hour in numbers_in(hours):
        times = times | (minutes << (HOUR_MINUTES * hour))
    return times


def days_by(days, weekdays, last, first):
    """The mask of the days of a month that the two day fields tell, each of them None or a list of marks."""
    if days is None and weekdays is None:
        return all_days(last)
    # One that is `*` tells nothing beside the other one.
    mask = 0
    for marks in (days, weekdays):
        if marks is not None:
            mask = mask | any_days(marks, last, first)
    return mask


class Row:
    """A row, made by read_row alone."""

    def __init__(self, fields):
        self.minute_mask = fields[MINUTE]
        self.hour_mask = fields[HOUR]
        self.day_marks = fields[DAY]
        self.month_mask = fields[MONTH]
        self.weekday_marks = fields[WEEKDAY]
        self.time_mask = times_of(self.hour_mask, self.minute_mask)

    def minutes(self):
        return self.minute_mask

    def hours(self):
        return self.hour_mask

    def months(self):
        return self.month_mask

    def times(self):
        """The mask of all minutes of a day that the row tells."""
        return self.time_mask

    def days_in(self, kind):
        """The mask of the days that the row tells in a month of a kind."""
        month = month_at(kind)
        if not has(self.month_mask, month[0]):
            return 0
        return days_by(self.day_marks, self.weekday_marks, month[1], month[2])

    def on_days(self, kind):
        """The times at which the row holds on each day of a month of a kind, from day 1 on."""
        days = self.days_in(kind)
        last = month_at(kind)[1]
        return [self.time_mask if has(days, day) else 0 for day in range(1, last + 1)]

    def holds(self, moment):
        return self.shut_by(moment) is None

    def shut_by(self, moment):
        """The first field that shuts a moment, None where the row holds."""
        parts = parted(moment)
        date = date_of(parts[0])
        if not has(self.month_mask, date[1]):
            return "month"
        if not has(self.days_in(kind_of(date[0], date[1])), date[2]):
            return "day"
        if not has(self.hour_mask, parts[1]):
            return "hour"
        if not has(self.minute_mask, parts[2]):
            return "minute"
        return None

    def shown(self):
        """The row's text."""
        return " ".join([
            shown_plain(self.minute_mask, MINUTE), shown_plain(self.hour_mask, HOUR), shown_marks(self.day_marks),
            shown_plain(self.month_mask, MONTH), shown_marks(self.weekday_marks)])


def shown_plain(mask, place):
    """The text of the field at a place that is none of the days."""
    bounds = BOUNDS[place]
    return shown_field(mask, bounds[0], bounds[1])


def read_word(word, place):
    """What the field at a place tells; refused with NoField."""
    if place == DAY:
        return read_days(word)
    if place == WEEKDAY:
        return read_weekdays(word)
    bounds = BOUNDS[place]
    return read_field(word, bounds[0], bounds[1])


def read_at(word, place):
    """What the field at a place tells; refused with NoRow."""
    try:
        return read_word(word, place)
    except NoField:
        raise NoRow(place) from None


def read_row(text):
    """The row of a text; refused with NoRow."""
    if not isinstance(text, str) or len(text) > MOST_ROW_SIGNS:
        raise NoRow(NO_PLACE)
    words = text.split(" ")
    if len(words) != NO_PLACE or "" in words:
        raise NoRow(NO_PLACE)
    return Row([read_at(word, place) for place, word in enumerate(words)])
