"""[0.2], [5.1], [5.2], [5.6], [5.7]: what shows that a row holds nowhere between two moments."""

import random
import unittest

from fivefields.days import date_of, day_of
from fivefields.leaps import last_to, next_from
from fivefields.moments import parted, read_moment
from fivefields.months import kind_of
from fivefields.papers import shuts
from fivefields.rows import read_row

WORDS = ("month", "day", "hour", "minute")
# The calendar comes again by these minutes.
ROUND = 210379680
FAR = (0, -ROUND, 10 ** 59 // ROUND * ROUND, -10 ** 59 // ROUND * ROUND)
# Friday and Monday of [5.7].
FRIDAY = read_moment("2026-11-13 10:00")
SATURDAY = read_moment("2026-11-14 00:00")
MONDAY = read_moment("2026-11-16 00:00")
NINE = read_moment("2026-11-16 09:00")
ROWS = ("0 9 * * 1-5", "*/15 8-17 * * *", "30 4,20 1,15 2-3,7 *", "0 0 29 2 *", "5 * * * 0", "59 23 L * 5#5",
        "1-59 * * 2 *", "0 0 30 2 *", "10 10 LW,15W 1/3 7L", "* * 31 * *", "* 1-23 * * *")


class Odd:
    """A thing that says it equals everything."""

    def __eq__(self, other):
        return True

    def __hash__(self):
        return 0


class Likened:
    """A thing that says it equals one other thing."""

    def __init__(self, thing):
        self.thing = thing

    def __eq__(self, other):
        return self.thing == other

    def __hash__(self):
        return hash(self.thing)


def field_shuts(row, moment, word):
    """Whether a word's field shuts a moment, by the words of [5.1]."""
    day, hour, minute = parted(moment)
    year, month, of_month = date_of(day)
    in_month = row.months() >> month & 1 == 1
    if word == "month":
        return not in_month
    if word == "day":
        return in_month and not row.days_in(kind_of(year, month)) >> of_month & 1
    if word == "hour":
        return not row.hours() >> hour & 1
    return not row.minutes() >> minute & 1


def shows(row, begin, end, paper):
    """Whether stretches show that a row holds nowhere, by the words of [5.6]."""
    if end < begin:
        return paper == []
    due, ahead = begin, None
    for first, last, word in paper:
        if first != due or last < first or word == ahead or word not in WORDS:
            return False
        # Month and day shut days as a whole, an hour shuts its sixty minutes.
        step = {"month": 1440, "day": 1440, "hour": 60, "minute": 1}[word]
        for part in range(first // step, last // step + 1):
            if not field_shuts(row, step * part, word):
                return False
        due, ahead = last + 1, word
    return due == end + 1


class Showing(unittest.TestCase):
    def tells(self, row, begin, end, paper, told):
        kept = list(paper)
        self.assertIs(shuts(row, begin, end, paper), told, paper)
        self.assertEqual(len(paper), len(kept))
        for thing, other in zip(paper, kept):
            self.assertIs(thing, other)


class Examples(Showing):
    def setUp(self):
        self.row = read_row("0 9 * * 1-5")

    def test_the_paper_itself(self):
        paper = [(FRIDAY, SATURDAY - 1, "hour"), (SATURDAY, MONDAY - 1, "day"), (MONDAY, NINE - 1, "hour")]
        self.assertEqual(next_from(self.row, FRIDAY), (NINE, paper))
        self.tells(self.row, FRIDAY, NINE - 1, paper, True)

    def test_hour_as_far_as_saturday_morning(self):
        nine = SATURDAY + 9 * 60
        self.tells(self.row, FRIDAY, NINE - 1,
                   [(FRIDAY, nine - 1, "hour"), (nine, MONDAY - 1, "day"), (MONDAY, NINE - 1, "hour")], True)
        self.tells(self.row, FRIDAY, NINE - 1,
                   [(FRIDAY, nine, "hour"), (nine + 1, MONDAY - 1, "day"), (MONDAY, NINE - 1, "hour")], False)

    def test_day_alone(self):
        self.tells(self.row, FRIDAY, NINE - 1, [(FRIDAY, NINE - 1, "day")], False)
        self.tells(self.row, SATURDAY, MONDAY - 1, [(SATURDAY, MONDAY - 1, "day")], True)
        self.tells(self.row, SATURDAY, MONDAY, [(SATURDAY, MONDAY, "day")], False)
        self.tells(self.row, SATURDAY - 1, MONDAY - 1, [(SATURDAY - 1, MONDAY - 1, "day")], False)

    def test_other_words_that_shut_too(self):
        # Ten minutes of Saturday that day, hour and minute shut, and its nine o'clock, that day alone shuts.
        ten = SATURDAY + 5
        for word in ("day", "hour", "minute"):
            self.tells(self.row, ten, ten + 9, [(ten, ten + 9, word)], True)
        self.tells(self.row, ten, ten + 9, [(ten, ten + 9, "month")], False)
        self.tells(self.row, ten, ten + 9,
                   [(ten, ten, "hour"), (ten + 1, ten + 1, "minute"), (ten + 2, ten + 9, "day")], True)
        nine = SATURDAY + 9 * 60
        self.tells(self.row, nine, nine, [(nine, nine, "day")], True)
        self.tells(self.row, nine, nine, [(nine, nine, "hour")], False)
        self.tells(self.row, nine, nine, [(nine, nine, "minute")], False)

    def test_day_shuts_only_in_told_months(self):
        row = read_row("0 9 15 6 *")
        first = read_moment("2026-05-31 00:00")
        self.tells(row, first, first + 1439, [(first, first + 1439, "month")], True)
        self.tells(row, first, first + 1439, [(first, first + 1439, "day")], False)
        self.tells(row, first + 1440, first + 2879, [(first + 1440, first + 2879, "day")], True)
        self.tells(row, first + 1440, first + 2879, [(first + 1440, first + 2879, "month")], False)
        self.tells(row, first, first + 2879, [(first, first + 2879, "day")], False)
        self.tells(row, first, first + 2879, [(first, first + 2879, "month")], False)
        both = [(first, first + 1439, "month"), (first + 1440, first + 2879, "day")]
        self.tells(row, first, first + 2879, both, True)

    def test_one_minute_of_each_word(self):
        # At 2026-11-14 08:30 all four fields shut, but day only where the month is told.
        row = read_row("0 9 * 12 1-5")
        moment = read_moment("2026-11-14 08:30")
        for word, told in (("month", True), ("day", False), ("hour", True), ("minute", True)):
            self.tells(row, moment, moment, [(moment, moment, word)], told)


class Papers(Showing):
    def test_what_next_from_and_last_to_tell(self):
        chance = random.Random(56)
        for text in ROWS:
            row = read_row(text)
            for shift in FAR:
                moment = shift + chance.randint(0, ROUND)
                found, paper = next_from(row, moment)
                if found is not None:
                    self.tells(row, moment, found - 1, paper, True)
                    self.tells(row, moment, found, paper, False)
                    self.tells(row, moment - 1, found - 1, paper, False)
                found, paper = last_to(row, moment)
                if found is not None:
                    self.tells(row, found + 1, moment, paper, True)
                    self.tells(row, found, moment, paper, False)
                    self.tells(row, found + 1, moment + 1, paper, False)

    def test_four_hundred_stretches(self):
        # Two hundred years of a row that never holds: February, and the other months.
        row = read_row("0 0 30 2 *")
        for turns in (0, 400 * 10 ** 50, -400 * 10 ** 50):
            paper = []
            for year in range(turns, turns + 200):
                first, later = 1440 * day_of(year, 2, 1), 1440 * day_of(year, 3, 1)
                paper.append((first, later - 1, "day"))
                paper.append((later, 1440 * day_of(year + 1, 2, 1) - 1, "month"))
            self.assertEqual(len(paper), 400)
            begin, end = paper[0][0], paper[-1][1]
            self.tells(row, begin, end, paper, True)
            self.tells(read_row("0 0 29 2 *"), begin, end, paper, False)
            for place in (0, 200, 399):
                self.tells(row, begin, end, paper[:place] + paper[place + 1:], False)

    def altered(self, paper, chance):
        """A paper changed a little, so that it mostly shows nothing any more."""
        paper = list(paper)
        place = chance.randrange(len(paper))
        first, last, word = paper[place]
        turn = chance.randrange(7)
        if turn == 0:
            paper[place] = (first, last, chance.choice(WORDS))
        elif turn == 1:
            paper[place] = (first + chance.choice((-1, 1)), last, word)
        elif turn == 2:
            paper[place] = (first, last + chance.choice((-1, 1)), word)
        elif turn == 3 and first < last:
            cut = chance.randint(first, last - 1)
            paper[place:place + 1] = [(first, cut, word), (cut + 1, last, chance.choice(WORDS))]
        elif turn == 4 and place > 0:
            # The border between two stretches, elsewhere.
            ahead = paper[place - 1]
            cut = chance.randint(max(ahead[0], first - 600), min(last - 1, first + 600)) if last > first else ahead[0]
            paper[place - 1:place + 1] = [(ahead[0], cut, ahead[2]), (cut + 1, last, word)]
        elif turn == 5:
            del paper[place]
        elif turn == 6 and place > 0:
            ahead = paper[place - 1]
            paper[place - 1:place + 1] = [(ahead[0], last, chance.choice((word, ahead[2])))]
        return paper

    def test_altered_papers(self):
        chance = random.Random(57)
        seen = {True: 0, False: 0}
        for turn in range(2500):
            row = read_row(chance.choice(ROWS[:7] + ROWS[8:]))
            moment = chance.choice(FAR) + chance.randint(0, ROUND)
            found, paper = next_from(row, moment)
            end = found - 1
            if paper and len(paper) < 30:
                for again in range(chance.randint(1, 3)):
                    paper = self.altered(paper, chance) or paper
                told = shows(row, moment, end, paper)
                self.tells(row, moment, end, paper, told)
                seen[told] += 1
        self.assertGreater(min(seen.values()), 100)


class Nothing(Showing):
    """The ways in which a list shows nothing."""

    def setUp(self):
        self.row = read_row("0 9 * * 1-5")
        self.paper = [(FRIDAY, SATURDAY - 1, "hour"), (SATURDAY, MONDAY - 1, "day"), (MONDAY, NINE - 1, "hour")]

    def nothing(self, paper):
        self.tells(self.row, FRIDAY, NINE - 1, paper, False)

    def test_an_empty_list_where_there_is_something_to_show(self):
        self.nothing([])
        self.tells(self.row, FRIDAY, FRIDAY, [], False)

    def test_end_below_begin(self):
        for below in (1, 2, 1440, 10 ** 59):
            self.tells(self.row, FRIDAY, FRIDAY - below, [], True)
            for something in (self.paper, [(FRIDAY, FRIDAY, "hour")], [(FRIDAY, FRIDAY - 1, "hour")], [None], [[]]):
                self.tells(self.row, FRIDAY, FRIDAY - below, something, False)
        # Even where the row holds at begin and end.
        self.tells(self.row, NINE, NINE - 1, [], True)

    def test_a_gap_and_an_overlap(self):
        for shift in (1, 2, 60, -1, -2, -60):
            self.nothing([self.paper[0], (SATURDAY + shift, MONDAY - 1, "day"), self.paper[2]])
            self.nothing([(FRIDAY, SATURDAY - 1 - shift, "hour"), self.paper[1], self.paper[2]])
        self.nothing([self.paper[0], self.paper[2]])
        self.nothing([self.paper[0], self.paper[1], self.paper[1], self.paper[2]])
        self.nothing([self.paper[1], self.paper[0], self.paper[2]])
        self.nothing(list(reversed(self.paper)))

    def test_a_wrong_begin_or_end(self):
        for shift in (1, -1, 60):
            self.nothing([(FRIDAY + shift, SATURDAY - 1, "hour"), self.paper[1], self.paper[2]])
            self.nothing([self.paper[0], self.paper[1], (MONDAY, NINE - 1 - shift, "hour")])
            self.tells(self.row, FRIDAY + shift, NINE - 1, self.paper, False)
            self.tells(self.row, FRIDAY, NINE - 1 - shift, self.paper, False)
        self.nothing(self.paper[:2])
        self.nothing(self.paper[1:])

    def test_alike_neighbours(self):
        for cut in (FRIDAY, FRIDAY + 60, SATURDAY - 2):
            self.nothing([(FRIDAY, cut, "hour"), (cut + 1, SATURDAY - 1, "hour"), self.paper[1], self.paper[2]])
        sunday = SATURDAY + 1440
        self.nothing([self.paper[0], (SATURDAY, sunday - 1, "day"), (sunday, MONDAY - 1, "day"), self.paper[2]])

    def test_first_above_last(self):
        self.nothing([(FRIDAY, FRIDAY - 1, "minute")] + self.paper)
        self.nothing(self.paper + [(NINE, NINE - 1, "minute")])
        self.nothing([self.paper[0], (SATURDAY, SATURDAY - 1, "minute"), self.paper[1], self.paper[2]])

    def test_a_word_of_no_field(self):
        for word in ("", "year", "weekday", "Day", "DAY", "day ", " day", "days", "da", None, 0, 1, True, ["day"],
                     ("day",), {"day": 1}, {"day"}, b"day", 1.5, Odd(), Likened("day")):
            self.nothing([self.paper[0], (SATURDAY, MONDAY - 1, word), self.paper[2]])

    def test_no_whole_numbers(self):
        for thing in (None, "0", 0.0, float(SATURDAY), [SATURDAY], (SATURDAY,), {}, b"0", Odd(), Likened(SATURDAY),
                      float("nan"), float("inf")):
            self.nothing([self.paper[0], (thing, MONDAY - 1, "day"), self.paper[2]])
            self.nothing([self.paper[0], (SATURDAY, thing, "day"), self.paper[2]])
            self.nothing([(thing, thing, "day")])

    def test_a_truth_in_a_numbers_place(self):
        row = read_row("9 9 * * *")
        self.tells(row, 0, 0, [(0, 0, "hour")], True)
        self.tells(row, 1, 1, [(1, 1, "hour")], True)
        self.tells(row, 0, 1, [(0, 1, "hour")], True)
        for paper in ([(False, 0, "hour")], [(0, False, "hour")], [(False, False, "hour")]):
            self.tells(row, 0, 0, paper, False)
        for paper in ([(True, 1, "hour")], [(1, True, "hour")], [(True, True, "hour")]):
            self.tells(row, 1, 1, paper, False)
        for paper in ([(False, 1, "hour")], [(0, True, "hour")], [(0, 0, "hour"), (True, 1, "minute")]):
            self.tells(row, 0, 1, paper, False)

    def test_things_that_are_no_tuples_or_of_another_length(self):
        first, last, word = self.paper[1]
        for thing in (None, 0, True, "day", "", [first, last, word], [], (), (first,), (first, last),
                      (first, last, word, word), (first, last, word, None), ((first, last, word),), {}, {0: first},
                      {first, last}, b"day", 1.5, Odd(), object(), self.row, shuts, (word, first, last),
                      (first, word, last)):
            self.nothing([self.paper[0], thing, self.paper[2]])
            self.nothing([thing])
            self.nothing(self.paper + [thing])
            self.nothing([thing] + self.paper)
            self.nothing([thing] * 400)

    def test_a_field_that_leaves_a_minute_open(self):
        row = read_row("30 12 10 6 *")
        day = read_moment("2026-06-10 00:00")
        # At its begin, at its end and amid, by each field.
        for word, first, last in (
                ("month", read_moment("2026-07-01 00:00"), read_moment("2027-05-31 23:59")),
                ("day", day + 1440, read_moment("2026-06-30 23:59")),
                ("day", read_moment("2026-06-01 00:00"), day - 1),
                ("hour", day - 11 * 60, day + 12 * 60 - 1), ("hour", day + 13 * 60, day + 1440 + 12 * 60 - 1),
                ("minute", day - 29, day + 29), ("minute", day + 12 * 60 + 31, day + 13 * 60 + 29)):
            self.tells(row, first, last, [(first, last, word)], True)
            self.tells(row, first - 1, last, [(first - 1, last, word)], False)
            self.tells(row, first, last + 1, [(first, last + 1, word)], False)
        for word, first, last in (
                ("month", read_moment("2026-05-20 00:00"), read_moment("2026-07-20 00:00")),
                ("day", read_moment("2026-06-09 00:00"), read_moment("2026-06-11 23:59")),
                ("hour", day + 11 * 60, day + 14 * 60), ("minute", day + 20, day + 40),
                ("hour", day, day + 1439), ("minute", day, day + 59), ("hour", day, day + 1440 * 30),
                ("minute", day, day + 1440)):
            self.tells(row, first, last, [(first, last, word)], False)

    def test_more_than_four_hundred_days(self):
        for text in ("0 0 30 2 *", "0 0 29 2 *", "0 0 1 1 *"):
            row = read_row(text)
            for days in (401, 1000, 10 ** 6, 10 ** 57):
                for begin in (0, -10 ** 59, 10 ** 59):
                    end = begin + 1440 * days - 1
                    for word in WORDS:
                        self.tells(row, begin, end, [(begin, end, word)], False)

    def test_the_longest_that_a_field_shuts(self):
        row = read_row("0 0 30 2 *")
        first, last = read_moment("2026-03-01 00:00"), read_moment("2027-01-31 23:59")
        self.tells(row, first, last, [(first, last, "month")], True)
        # All months are told, and the first ones of the year have no fifth Sunday till then.
        row = read_row("0 0 * 1-12 0#5")
        moment = read_moment("2026-01-01 00:00")
        found, paper = next_from(row, moment)
        self.assertEqual([word for first, last, word in paper], ["day"])
        self.tells(row, moment, found - 1, [(moment, found - 1, "day")], True)
        self.tells(row, moment, found, [(moment, found, "day")], False)


if __name__ == "__main__":
    unittest.main()
