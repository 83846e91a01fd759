"""[0.2], [0.5], [0.6], [5.1] to [5.5], [5.7]: the next moment of a row, the last one, and the paper beside it."""

import random
import unittest

from fivefields.days import date_of, day_of
from fivefields.leaps import last_to, never, next_from
from fivefields.moments import parted, read_moment, show_moment
from fivefields.months import kind_of
from fivefields.papers import shuts
from fivefields.rows import read_row

# The calendar comes again by these minutes.
ROUND = 210379680
FAR = (0, -ROUND, 10 ** 59 // ROUND * ROUND, -10 ** 59 // ROUND * ROUND)
MOST_DAYS = 14609
OFTEN = ("* * * * *", "*/15 * * * *", "0 9 * * 1-5", "30 4,20 * * *", "59 23 */3 * *", "7/9 8-17/4 * * *", "0 0 * * *",
         "10-20 5 1-31/2 * 0", "0,59 0,23 * * *", "3 3 *,5 * 1", "5 * * * 0-5", "0 12 * 11-12,1-2 *")
SELDOM = ("0 0 29 2 *", "0 0 * 2 1#5", "59 23 29 2 *", "30 12 31 12 *", "0 0 L-30 * *", "5 5 * 2 4#5,0#5",
          "0 9 31W 4-8 *", "15 6 29W 2 *", "0 0 1 1 *", "0 0 * 1 3#5", "1 1 31 2,3 5#5", "0 0 L 2 2#5",
          "*/20 * 29-31 2,4 *", "0 0 30 4,2 *", "0 0 * 4,6 6#5", "0 0 31 1,2,3,4,5,6 *")
NEVER = ("0 0 30 2 *", "* * 31 4 *", "* * 30-31 2 *", "0 0 31 2,4,6,9,11 *", "0 0 L-30 2,4,6,9,11 *", "0 0 L-29 2 *",
         "0 0 31W,30W 2 *", "59 23 31W 2,4,6,9,11 *")


def holds_on(row, day):
    """Whether the row has a moment on a day: every row has some time."""
    year, month, of_month = date_of(day)
    return row.days_in(kind_of(year, month)) >> of_month & 1 == 1


def walked(row, moment, step):
    """The first moment at which the row holds, minute by minute in the way of step, and the words passed by."""
    words = []
    while not row.holds(moment):
        words.append((moment, row.shut_by(moment)))
        moment += step
    return moment, words


def runs(words):
    """The greatest runs of alike words."""
    stretches = []
    for moment, word in sorted(words):
        if stretches and stretches[-1][2] == word:
            stretches[-1] = (stretches[-1][0], moment, word)
        else:
            stretches.append((moment, moment, word))
    return stretches


def next_by_days(row, moment):
    """The next moment of a row, by a walk day by day; None behind the days of [5.5]."""
    day, hour, minute = parted(moment)
    times = [time for time in range(1440) if row.times() >> time & 1]
    late = [time for time in times if time >= 60 * hour + minute]
    if late and holds_on(row, day):
        return 1440 * day + late[0]
    for later in range(day + 1, day + MOST_DAYS + 2):
        if holds_on(row, later):
            return 1440 * later + times[0]
    return None


def last_by_days(row, moment):
    """The last moment of a row, by a walk day by day."""
    day, hour, minute = parted(moment)
    times = [time for time in range(1440) if row.times() >> time & 1]
    early = [time for time in times if time <= 60 * hour + minute]
    if early and holds_on(row, day):
        return 1440 * day + early[-1]
    for earlier in range(day - 1, day - MOST_DAYS - 2, -1):
        if holds_on(row, earlier):
            return 1440 * earlier + times[-1]
    return None


class Paper(unittest.TestCase):
    def is_the_paper(self, row, begin, end, paper):
        """End to end from begin to end, the word of shut_by at each minute, neighbours unlike, at most a hundred."""
        self.assertIs(type(paper), list)
        self.assertLessEqual(len(paper), 100)
        due, ahead = begin, None
        for stretch in paper:
            self.assertIs(type(stretch), tuple)
            first, last, word = stretch
            self.assertEqual(first, due)
            self.assertLessEqual(first, last)
            self.assertNotEqual(word, ahead)
            self.word_throughout(row, first, last, word)
            due, ahead = last + 1, word
        self.assertEqual(due, end + 1)
        self.assertIs(shuts(row, begin, end, paper), True)

    def word_throughout(self, row, first, last, word):
        self.assertEqual(row.shut_by(first), word)
        self.assertEqual(row.shut_by(last), word)
        if word in ("month", "day"):
            # These shut days from midnight to midnight.
            for day in range(first // 1440 + 1, last // 1440 + 1):
                self.assertEqual(row.shut_by(1440 * day), word)
        else:
            self.assertLess(last - first, 1440)
            for moment in range(first, last + 1):
                self.assertEqual(row.shut_by(moment), word)

    def both(self, row, moment):
        """What next_from and last_to tell, their papers held against the document."""
        later, ahead = next_from(row, moment)
        earlier, behind = last_to(row, moment)
        self.is_the_paper(row, moment, later - 1, ahead)
        self.is_the_paper(row, earlier + 1, moment, behind)
        self.assertIs(row.holds(later), True)
        self.assertIs(row.holds(earlier), True)
        self.assertLessEqual(later - moment, MOST_DAYS * 1440)
        self.assertLessEqual(moment - earlier, MOST_DAYS * 1440)
        return later, earlier


class Often(Paper):
    def test_against_a_walk_minute_by_minute(self):
        chance = random.Random(53)
        for text in OFTEN[:-1]:
            row = read_row(text)
            for shift in FAR:
                moment = shift + chance.randint(0, ROUND)
                later, words = walked(row, moment, 1)
                self.assertEqual(next_from(row, moment), (later, runs(words)), (text, moment))
                earlier, words = walked(row, moment, -1)
                self.assertEqual(last_to(row, moment), (earlier, runs(words)), (text, moment))

    def test_many_moments_of_some_days(self):
        row = read_row("10,40 6-8,20 * * 1-5")
        first = 1440 * day_of(2026, 11, 13)
        found = None
        for moment in range(first + 5 * 1440, first - 1, -1):
            found = moment if row.holds(moment) else found
            if moment <= first + 4 * 1440 and moment % 7 == 0:
                self.assertEqual(next_from(row, moment)[0], found)
        found = None
        for moment in range(first, first + 5 * 1440):
            found = moment if row.holds(moment) else found
            if found is not None and moment % 7 == 0:
                self.assertEqual(last_to(row, moment)[0], found)

    def test_the_moment_itself(self):
        for text in OFTEN + SELDOM:
            row = read_row(text)
            for shift in FAR:
                held = next_from(row, shift + 12345)[0]
                self.assertEqual(next_from(row, held), (held, []))
                self.assertEqual(last_to(row, held), (held, []))

    def test_there_and_back(self):
        chance = random.Random(54)
        for text in OFTEN + SELDOM:
            row = read_row(text)
            for shift in FAR:
                moment = shift + chance.randint(0, ROUND)
                later, earlier = next_from(row, moment)[0], last_to(row, moment)[0]
                self.assertLessEqual(earlier, moment)
                self.assertGreaterEqual(later, moment)
                if later != earlier:
                    self.assertEqual(last_to(row, later - 1)[0], earlier)
                    self.assertEqual(next_from(row, earlier + 1)[0], later)

    def test_ends_of_days_months_and_years(self):
        for text in OFTEN:
            row = read_row(text)
            for shown in ("-1-12-31 23:59", "0-01-01 00:00", "2023-12-31 23:59", "2024-02-29 23:59", "2024-03-01 00:00",
                          "2100-02-28 23:59", "2026-10-31 12:00", "2026-11-01 00:00"):
                moment = read_moment(shown)
                later, earlier = self.both(row, moment)
                self.assertEqual(later, next_by_days(row, moment))
                self.assertEqual(earlier, last_by_days(row, moment))

    def test_told_lists_are_the_askers_own(self):
        row = read_row("0 9 * * 1-5")
        moment = read_moment("2026-11-14 10:00")
        for asked in (next_from, last_to):
            found, paper = asked(row, moment)
            once_more = asked(row, moment)
            self.assertIs(type(once_more), tuple)
            self.assertIsNot(once_more[1], paper)
            paper.clear()
            self.assertEqual(asked(row, moment), once_more)
            self.assertIsNot(asked(row, found)[1], asked(row, found)[1])


class Seldom(Paper):
    def test_against_a_walk_day_by_day(self):
        chance = random.Random(55)
        for text in SELDOM:
            row = read_row(text)
            for shift in FAR:
                moment = shift + chance.randint(0, ROUND)
                later, earlier = self.both(row, moment)
                self.assertEqual(later, next_by_days(row, moment), (text, moment))
                self.assertEqual(earlier, last_by_days(row, moment), (text, moment))

    def test_rows_by_chance(self):
        chance = random.Random(56)
        for turn in range(150):
            text = " ".join((chance.choice(("0", "59", "*/20", "5-7")), chance.choice(("0", "23", "*/6", "9-17")),
                             chance.choice(("*", "29", "30", "31", "L", "L-28", "31W", "1W", "13,LW", "*,5")),
                             chance.choice(("*", "2", "2,4", "12", "1-6", "*/5", "11")),
                             chance.choice(("*", "*", "1", "5#5", "0#5,3#5", "7L", "6#1", "*,2"))))
            row = read_row(text)
            moment = chance.choice(FAR) + chance.randint(0, ROUND)
            if never(row):
                self.assertEqual((next_from(row, moment), last_to(row, moment)), ((None, []), (None, [])))
            else:
                later, earlier = self.both(row, moment)
                self.assertEqual(later, next_by_days(row, moment), (text, moment))
                self.assertEqual(earlier, last_by_days(row, moment), (text, moment))

    def leap(self, text, moment, found):
        row = read_row(text)
        for shift in FAR:
            self.assertEqual(next_from(row, read_moment(moment) + shift)[0], read_moment(found) + shift)

    def back(self, text, moment, found):
        row = read_row(text)
        for shift in FAR:
            self.assertEqual(last_to(row, read_moment(moment) + shift)[0], read_moment(found) + shift)

    def test_the_twenty_ninth_of_february_over_hundreds(self):
        self.leap("0 0 29 2 *", "1896-02-29 00:00", "1896-02-29 00:00")
        self.leap("0 0 29 2 *", "1896-02-29 00:01", "1904-02-29 00:00")
        self.leap("0 0 29 2 *", "1996-03-01 00:00", "2000-02-29 00:00")
        self.back("0 0 29 2 *", "2104-02-28 23:59", "2096-02-29 00:00")
        self.back("0 0 29 2 *", "-97-01-01 00:00", "-104-02-29 00:00")
        self.leap("0 0 29 2 *", "-104-03-01 00:00", "-96-02-29 00:00")

    def test_forty_years_away(self):
        # Of the long Februaries from 1872 to 1912 just these two begin with a Thursday.
        self.leap("5 8 * 2 4#5", "1872-02-29 08:06", "1912-02-29 08:05")
        self.back("5 8 * 2 4#5", "1912-02-29 08:04", "1872-02-29 08:05")
        row = read_row("0 0 * 2 4#5")
        moment = read_moment("1872-02-29 00:01")
        found, paper = next_from(row, moment)
        self.assertEqual(show_moment(found), "1912-02-29 00:00")
        self.is_the_paper(row, moment, found - 1, paper)
        # The rest of the first day, and forty times eleven months and a February.
        self.assertEqual(len(paper), 82)
        self.assertEqual([word for first, last, word in paper], ["minute", "hour"] + ["month", "day"] * 40)
        self.assertLessEqual(found - moment, MOST_DAYS * 1440)

    def test_the_forty_years_of_each_fifth_weekday(self):
        for weekday in range(7):
            row = read_row(f"0 0 * 2 {weekday}#5")
            year = -400
            moment = read_moment(f"{year}-01-01 00:00")
            gaps = []
            while moment < 0:
                found, paper = next_from(row, moment)
                self.assertLessEqual(len(paper), 100)
                gaps.append(date_of(found // 1440)[0] - year)
                year, moment = date_of(found // 1440)[0], found + 1
            self.assertEqual(max(gaps[1:]), 40)


class Example(unittest.TestCase):
    def test_friday_to_monday(self):
        row = read_row("0 9 * * 1-5")
        # 2026-11-13 is a Friday.
        told = (read_moment("2026-11-16 09:00"), [
            (read_moment("2026-11-13 10:00"), read_moment("2026-11-13 23:59"), "hour"),
            (read_moment("2026-11-14 00:00"), read_moment("2026-11-15 23:59"), "day"),
            (read_moment("2026-11-16 00:00"), read_moment("2026-11-16 08:59"), "hour")])
        self.assertEqual(next_from(row, read_moment("2026-11-13 10:00")), told)

    def test_back_from_monday_to_friday(self):
        row = read_row("0 9 * * 1-5")
        told = (read_moment("2026-11-13 09:00"), [
            (read_moment("2026-11-13 09:01"), read_moment("2026-11-13 09:59"), "minute"),
            (read_moment("2026-11-13 10:00"), read_moment("2026-11-13 23:59"), "hour"),
            (read_moment("2026-11-14 00:00"), read_moment("2026-11-15 23:59"), "day"),
            (read_moment("2026-11-16 00:00"), read_moment("2026-11-16 08:59"), "hour")])
        self.assertEqual(last_to(row, read_moment("2026-11-16 08:59")), told)

    def test_each_word(self):
        row = read_row("30 9,17 15 6 *")
        told = (read_moment("2027-06-15 09:30"), [
            (read_moment("2026-06-15 17:31"), read_moment("2026-06-15 17:59"), "minute"),
            (read_moment("2026-06-15 18:00"), read_moment("2026-06-15 23:59"), "hour"),
            (read_moment("2026-06-16 00:00"), read_moment("2026-06-30 23:59"), "day"),
            (read_moment("2026-07-01 00:00"), read_moment("2027-05-31 23:59"), "month"),
            (read_moment("2027-06-01 00:00"), read_moment("2027-06-14 23:59"), "day"),
            (read_moment("2027-06-15 00:00"), read_moment("2027-06-15 08:59"), "hour"),
            (read_moment("2027-06-15 09:00"), read_moment("2027-06-15 09:29"), "minute")])
        self.assertEqual(next_from(row, read_moment("2026-06-15 17:31")), told)
        self.assertEqual(last_to(row, told[0] - 1), (read_moment("2026-06-15 17:30"), told[1]))

    def test_one_day_stretch_over_two_months(self):
        row = read_row("0 0 31 1,2,3,4 *")
        told = (read_moment("2026-03-31 00:00"), [
            (read_moment("2026-01-31 00:01"), read_moment("2026-01-31 00:59"), "minute"),
            (read_moment("2026-01-31 01:00"), read_moment("2026-01-31 23:59"), "hour"),
            (read_moment("2026-02-01 00:00"), read_moment("2026-03-30 23:59"), "day")])
        self.assertEqual(next_from(row, read_moment("2026-01-31 00:01")), told)


class Never(unittest.TestCase):
    def test_rows_that_never_hold(self):
        for text in NEVER:
            row = read_row(text)
            self.assertIs(never(row), True, text)
            for moment in (0, -1, 10 ** 59, -10 ** 59, 10 ** 60, -10 ** 60):
                self.assertEqual(next_from(row, moment), (None, []))
                self.assertEqual(last_to(row, moment), (None, []))

    def test_rows_that_hold_at_times(self):
        for text in OFTEN + SELDOM:
            self.assertIs(never(read_row(text)), False, text)
        for text in ("0 0 30 2,4 *", "0 0 30 2 1", "0 0 31 4 5L", "0 0 L-28 2 *", "0 0 29W 2 *", "0 0 *,30 2 *"):
            self.assertIs(never(read_row(text)), False, text)

    def test_never_just_where_no_kind_has_a_day(self):
        for text in OFTEN + SELDOM + NEVER:
            row = read_row(text)
            self.assertIs(never(row), not any(row.days_in(kind) for kind in range(91)))


if __name__ == "__main__":
    unittest.main()
