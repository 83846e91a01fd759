"""Marks: what tells days of a month by its last day and the weekday of its first one, and their texts."""

from fivefields.errors import NoField
from fivefields.fields import MOST_ITEMS, MOST_SIGNS, read_item, read_number
from fivefields.ranges import shown_ranges

MOST_MARKS = 20
MOST_DAY = 31
MOST_BACK = 30
MOST_NTH = 5
SUNDAY = 0
SATURDAY = 6
# In texts Sunday is 7, too.
SUNDAY_TOO = 7
ALL_WEEKDAYS = 127


def weekday_at(day, first):
    """The weekday of a day of a month whose first day has the weekday first."""
    return (first + day - 1) % 7


def all_days(last):
    """The mask of the days from 1 to the last."""
    return (2 << last) - 2


def nearest_work(day, last, first):
    """The working day of a month that is the fewest days away from one of its days."""
    of_week = weekday_at(day, first)
    if of_week == SATURDAY:
        return day - 1 if day > 1 else 3
    if of_week == SUNDAY:
        return day + 1 if day < last else last - 2
    return day


def first_one(weekday, first):
    """The first day of a weekday in a month."""
    return 1 + (weekday - first) % 7


class Mark:
    """A mark that tells no day."""

    def days(self, last, first):
        return 0

    def told(self):
        return ""


class Numbers(Mark):
    """Days by their numbers."""

    def __init__(self, mask):
        self.mask = mask

    def days(self, last, first):
        return self.mask & all_days(last)

    def told(self):
        return shown_ranges(self.mask)


class Last(Mark):
    """The day that is so many days ahead of the last one."""

    def __init__(self, back=0):
        self.back = back

    def days(self, last, first):
        if self.back >= last:
            return 0
        return 1 << (last - self.back)

    def told(self):
        if self.back == 0:
            return "L"
        return "L-" + str(self.back)


class Near(Mark):
    """The working day nearest to a day."""

    def __init__(self, day):
        self.day = day

    def days(self, last, first):
        if self.day > last:
            return 0
        return 1 << nearest_work(self.day, last, first)

    def told(self):
        return str(self.day) + "W"


class LastWork(Mark):
    """The last working day."""

    def days(self, last, first):
        return 1 << nearest_work(last, last, first)

    def told(self):
        return "LW"


class Weekdays(Mark):
    """All days of some weekdays."""

    def __init__(self, mask):
        self.mask = mask

    def days(self, last, first):
        # Six weeks of the mask end to end, from a Sunday on, hold the month, which begins first days later.
        weeks = 0
        for week in range(6):
            weeks = weeks | (self.mask << (7 * week))
        return (weeks >> first << 1) & all_days(last)

    def told(self):
        return shown_ranges(self.mask)


class Nth(Mark):
    """The first, second and so on of the days of a weekday."""

    def __init__(self, weekday, many):
        self.weekday = weekday
        self.many = many

    def days(self, last, first):
        day = first_one(self.weekday, first) + 7 * (self.many - 1)
        if day > last:
            return 0
        return 1 << day

    def told(self):
        return str(self.weekday) + "#" + str(self.many)


class LastOne(Mark):
    """The last day of a weekday."""

    def __init__(self, weekday):
        self.weekday = weekday

    def days(self, last, first):
        return 1 << (last - (weekday_at(last, first) - self.weekday) % 7)

    def told(self):
        return str(self.weekday) + "L"


def any_days(marks, last, first):
    """The mask of the days that one or more marks of a list tell."""
    mask = 0
    for mark in marks:
        mask = mask | mark.days(last, first)
    return mask


def read_day_mark(item):
    """The mark of an item of a day of the month that isn't plain, None where it is none."""
    if item == "L":
        return Last()
    if item == "LW":
        return LastWork()
    if item.startswith("L-"):
        back = read_number(item[2:], 1, MOST_BACK)
        return None if back is None else Last(back)
    if item.endswith("W"):
        day = read_number(item[:-1], 1, MOST_DAY)
        return None if day is None else Near(day)
    return None


def read_weekday(text):
    """The weekday that a text tells, None where it tells none."""
    number = read_number(text, 0, SUNDAY_TOO)
    return SUNDAY if number == SUNDAY_TOO else number


def read_weekday_mark(item):
    """The mark of an item of a day of the week that isn't plain, None where it is none."""
    if item.endswith("L"):
        weekday = read_weekday(item[:-1])
        return None if weekday is None else LastOne(weekday)
    parts = item.split("#")
    if len(parts) != 2:
        return None
    weekday = read_weekday(parts[0])
    many = read_number(parts[1], 1, MOST_NTH)
    if weekday is None or many is None:
        return None
    return Nth(weekday, many)


def read_items(text, low, high, read_mark):
    """The mask of a text's plain items and the list of its other ones' marks, as a tuple; refused with NoField."""
    if not isinstance(text, str) or len(text) > MOST_SIGNS:
        raise NoField(0)
    items = text.split(",")
    mask = 0
    marks = []
    for place, item in enumerate(items[:MOST_ITEMS]):
        plain = read_item(item, low, high)
        if plain is None:
            mark = read_mark(item)
            if mark is None or len(marks) == MOST_MARKS:
                raise NoField(place)
            marks.append(mark)
        else:
            mask = mask | plain
    if len(items) > MOST_ITEMS:
        raise NoField(MOST_ITEMS)
    return (mask, marks)


def read_days(text):
    """None of `*`, else the marks of the text of a day of the month; refused with NoField."""
    read = read_items(text, 1, MOST_DAY, read_day_mark)
    if text == "*":
        return None
    if read[0] == 0:
        return read[1]
    return [Numbers(read[0])] + read[1]


def read_weekdays(text):
    """None of `*`, else the marks of the text of a day of the week; refused with NoField."""
    read = read_items(text, 0, SUNDAY_TOO, read_weekday_mark)
    if text == "*":
        return None
    if read[0] == 0:
        return read[1]
    mask = (read[0] | (read[0] >> SUNDAY_TOO)) & ALL_WEEKDAYS
    return [Weekdays(mask)] + read[1]


def shown_marks(marks):
    """`*` of None, else the texts of a list of marks, parted by commas."""
    if marks is None:
        return "*"
    return ",".join([mark.told() for mark in marks])
