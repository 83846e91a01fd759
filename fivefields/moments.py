"""Moments: minutes, told from 0:00 of day 0, and their texts."""

from fivefields.days import date_of, day_of
from fivefields.errors import NoDay, NoMoment
from fivefields.figures import all_figures, is_written, written
from fivefields.wholes import is_whole

DAY_MINUTES = 1440
HOUR_MINUTES = 60
MOST_YEAR_FIGURES = 50
# The signs behind the year, as in "-02-29 08:05".
TAIL_SIGNS = 12


def moment_of(day, hour, minute):
    """The moment of a day at an hour and a minute; refused with NoMoment where there is no such one."""
    if not (is_whole(day) and is_whole(hour) and is_whole(minute)):
        raise NoMoment("no whole number")
    if not (0 <= hour <= 23 and 0 <= minute <= 59):
        raise NoMoment("no such time of a day")
    return DAY_MINUTES * day + HOUR_MINUTES * hour + minute


def parted(moment):
    """The day, the hour and the minute of a moment, as a tuple."""
    time = moment % DAY_MINUTES
    return (moment // DAY_MINUTES, time // HOUR_MINUTES, time % HOUR_MINUTES)


def shown_year(year):
    """A year's text."""
    if year < 0:
        return "-" + written(-year)
    return written(year)


def two_figures(number):
    """A number from 0 to 99 as two figures."""
    return str(number).zfill(2)


def show_moment(moment):
    """A moment's text."""
    parts = parted(moment)
    date = date_of(parts[0])
    year = shown_year(date[0])
    month = two_figures(date[1])
    day = two_figures(date[2])
    hour = two_figures(parts[1])
    minute = two_figures(parts[2])
    return f"{year}-{month}-{day} {hour}:{minute}"


def is_shown_year(text):
    """Whether a text is a year that may be read."""
    bare = text[1:] if text.startswith("-") else text
    return len(bare) <= MOST_YEAR_FIGURES and is_written(bare) and text != "-0"


def is_shown_tail(tail):
    """Whether a text has the form of what stands behind the year, whatever its numbers are."""
    if len(tail) != TAIL_SIGNS:
        return False
    between = tail[0] + tail[3] + tail[6] + tail[9]
    within = tail[1:3] + tail[4:6] + tail[7:9] + tail[10:12]
    return between == "-- :" and all_figures(within)


def read_day(year, month, day):
    """The day of a date told by texts; refused with NoMoment."""
    try:
        return day_of(int(year), int(month), int(day))
    except NoDay:
        raise NoMoment("there is no such date") from None


def read_moment(text):
    """The moment that a text shows; refused with NoMoment whatever is no such text."""
    if not isinstance(text, str):
        raise NoMoment("no text")
    year = text[:-TAIL_SIGNS]
    tail = text[-TAIL_SIGNS:]
    if not (is_shown_tail(tail) and is_shown_year(year)):
        raise NoMoment("no text of a moment")
    return moment_of(read_day(year, tail[1:3], tail[4:6]), int(tail[7:9]), int(tail[10:12]))
