"""Papers: stretches end to end that show that a row holds nowhere between two moments."""

from fivefields.days import date_of
from fivefields.moments import DAY_MINUTES, HOUR_MINUTES, parted
from fivefields.months import kind_of, month_at
from fivefields.ranges import has, lowest
from fivefields.wholes import is_whole

WORDS = ("month", "day", "hour", "minute")
# No field shuts all minutes of more days than these.
MOST_DAYS = 400


def add_stretch(stretches, first, last, told):
    """Puts a stretch behind the others of a list, into the last one where both tell alike."""
    if stretches != [] and stretches[-1][2] == told:
        stretches[-1] = (stretches[-1][0], last, told)
    else:
        stretches.append((first, last, told))


def field_shuts(row, moment, word):
    """Whether the field of a word shuts a moment."""
    parts = parted(moment)
    if word == "hour":
        return not has(row.hours(), parts[1])
    if word == "minute":
        return not has(row.minutes(), parts[2])
    date = date_of(parts[0])
    in_month = has(row.months(), date[1])
    if word == "month":
        return not in_month
    return in_month and not has(row.days_in(kind_of(date[0], date[1])), date[2])


def last_shut_day(row, day):
    """The last day of its month up to which, from a day that isn't told on, no day is told."""
    date = date_of(day)
    kind = kind_of(date[0], date[1])
    # In a month that isn't told no day is told, so the whole rest of it is shut.
    later = row.days_in(kind) >> date[2]
    if later == 0:
        return day + month_at(kind)[1] - date[2]
    return day + lowest(later) - 1


def shut_end(row, moment, word):
    """A minute up to which the field of a word shuts all from a moment that it shuts on."""
    if word == "minute":
        return moment
    if word == "hour":
        return moment - moment % HOUR_MINUTES + HOUR_MINUTES - 1
    return DAY_MINUTES * last_shut_day(row, moment // DAY_MINUTES) + DAY_MINUTES - 1


def paper_of(row, begin, end):
    """The one paper of two moments between which the row holds nowhere."""
    stretches = []
    moment = begin
    while moment <= end:
        word = row.shut_by(moment)
        last = min(shut_end(row, moment, word), end)
        add_stretch(stretches, moment, last, word)
        moment = last + 1
    return stretches


def is_stretch(thing):
    """Whether a thing, of whatever kind, is a stretch."""
    if not isinstance(thing, tuple) or len(thing) != 3:
        return False
    if not (is_whole(thing[0]) and is_whole(thing[1]) and isinstance(thing[2], str)):
        return False
    return thing[0] <= thing[1] and thing[2] in WORDS


def goes_end_to_end(begin, end, paper):
    """Whether a list is of stretches from begin to end, neighbours of unlike words."""
    due = begin
    word = ""
    for thing in paper:
        if not is_stretch(thing) or thing[0] != due or thing[2] == word:
            return False
        due = thing[1] + 1
        word = thing[2]
    return due == end + 1


def is_shut(row, first, last, word):
    """Whether the field of a word shuts every minute from first to last."""
    # Without this a very long stretch would be walked through.
    if last - first >= DAY_MINUTES * MOST_DAYS:
        return False
    moment = first
    while moment <= last:
        if not field_shuts(row, moment, word):
            return False
        moment = shut_end(row, moment, word) + 1
    return True


def shuts(row, begin, end, paper):
    """Whether a list, of whatever things, shows that the row holds nowhere from begin to end."""
    if end < begin:
        return len(paper) == 0
    if not goes_end_to_end(begin, end, paper):
        return False
    return all([is_shut(row, first, last, word) for first, last, word in paper])
