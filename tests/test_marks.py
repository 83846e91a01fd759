"""[0.2], [0.3], [3.3] to [3.8]: marks of days and their texts."""

import random
import unittest

from fivefields.errors import FieldError, NoField
from fivefields.fields import mask_of, numbers_in
from fivefields.marks import (
    Last, LastOne, LastWork, Mark, Near, Nth, Numbers, Weekdays, any_days, read_days, read_weekdays, shown_marks)
from fivefields.ranges import shown_ranges

MONTHS = [(last, first) for last in range(28, 32) for first in range(7)]
UNDER = (Numbers, Last, Near, LastWork, Weekdays, Nth, LastOne)
NO_TEXTS = (None, True, False, 0, 5, 1.5, [], ["5"], ("5",), {}, b"5", Mark())


def days_and_weekdays(last, first):
    """Each day of a month with its weekday, counted one by one."""
    told, weekday = [], first
    for day in range(1, last + 1):
        told.append((day, weekday))
        weekday = 0 if weekday == 6 else weekday + 1
    return told


def of_weekday(weekday, last, first):
    return [day for day, other in days_and_weekdays(last, first) if other == weekday]


def working(last, first):
    return [day for day, weekday in days_and_weekdays(last, first) if 1 <= weekday <= 5]


def every_mark():
    """Each mark of one number, and some of several, with its text."""
    marks = [(Mark(), ""), (Last(), "L"), (LastWork(), "LW")]
    marks += [(Last(back), f"L-{back}" if back else "L") for back in range(31)]
    marks += [(Near(day), f"{day}W") for day in range(1, 32)]
    marks += [(Nth(weekday, many), f"{weekday}#{many}") for weekday in range(7) for many in range(1, 6)]
    marks += [(LastOne(weekday), f"{weekday}L") for weekday in range(7)]
    marks += [(Numbers(2 ** day), str(day)) for day in range(1, 32)]
    marks += [(Weekdays(2 ** weekday), str(weekday)) for weekday in range(7)]
    return marks


class Days(unittest.TestCase):
    def tells(self, mark, last, first, days):
        told = mark.days(last, first)
        self.assertIs(type(told), int)
        self.assertEqual(numbers_in(told), days, (mark.told(), last, first))

    def test_no_day(self):
        for last, first in MONTHS:
            self.tells(Mark(), last, first, [])

    def test_numbers(self):
        chance = random.Random(31)
        masks = [2 ** day for day in range(1, 32)] + [2 ** 32 - 2]
        masks += [chance.getrandbits(31) * 2 or 2 for turn in range(60)]
        for mask in masks:
            for last, first in MONTHS:
                self.tells(Numbers(mask), last, first, [day for day in range(1, last + 1) if mask & 2 ** day])

    def test_last(self):
        for last, first in MONTHS:
            self.tells(Last(), last, first, [last])
            for back in range(31):
                self.tells(Last(back), last, first, [last - back] if back < last else [])

    def test_last_by_hand(self):
        self.tells(Last(27), 28, 3, [1])
        self.tells(Last(28), 28, 3, [])
        self.tells(Last(28), 29, 3, [1])
        self.tells(Last(30), 30, 3, [])
        self.tells(Last(30), 31, 3, [1])

    def test_near(self):
        for last, first in MONTHS:
            for day in range(1, 32):
                nearest = min(working(last, first), key=lambda other: abs(other - day))
                self.tells(Near(day), last, first, [nearest] if day <= last else [])

    def test_near_a_saturday_that_is_day_one(self):
        for last in range(28, 32):
            self.tells(Near(1), last, 6, [3])
            self.tells(Near(2), last, 6, [3])

    def test_near_a_sunday_that_is_the_last_day(self):
        for last in range(28, 32):
            first = (0 - (last - 1)) % 7
            self.assertEqual(days_and_weekdays(last, first)[-1], (last, 0))
            self.tells(Near(last), last, first, [last - 2])
            self.tells(Near(last - 1), last, first, [last - 2])

    def test_near_other_free_days(self):
        self.tells(Near(1), 30, 0, [2])
        self.tells(Near(7), 30, 0, [6])
        self.tells(Near(8), 30, 0, [9])
        self.tells(Near(28), 28, 0, [27])
        self.tells(Near(29), 28, 0, [])
        self.tells(Near(31), 30, 0, [])

    def test_last_work(self):
        for last, first in MONTHS:
            self.tells(LastWork(), last, first, [working(last, first)[-1]])

    def test_weekdays(self):
        for mask in range(1, 128):
            for last, first in MONTHS:
                days = [day for day, weekday in days_and_weekdays(last, first) if mask & 2 ** weekday]
                self.tells(Weekdays(mask), last, first, days)

    def test_nth(self):
        for last, first in MONTHS:
            for weekday in range(7):
                days = of_weekday(weekday, last, first)
                for many in range(1, 6):
                    self.tells(Nth(weekday, many), last, first, days[many - 1:many])

    def test_a_fifth_weekday_that_there_is_and_that_there_is_not(self):
        self.tells(Nth(1, 5), 31, 1, [29])
        self.tells(Nth(3, 5), 31, 1, [31])
        self.tells(Nth(4, 5), 31, 1, [])
        self.tells(Nth(1, 5), 29, 1, [29])
        self.tells(Nth(1, 5), 28, 1, [])
        self.tells(Nth(1, 4), 28, 1, [22])

    def test_last_one(self):
        for last, first in MONTHS:
            for weekday in range(7):
                self.tells(LastOne(weekday), last, first, [of_weekday(weekday, last, first)[-1]])

    def test_marks_together(self):
        chance = random.Random(33)
        marks = [mark for mark, text in every_mark()]
        for turn in range(300):
            some = chance.sample(marks, chance.randint(1, 8))
            kept = list(some)
            for last, first in MONTHS:
                days = {day for mark in some for day in numbers_in(mark.days(last, first))}
                self.assertEqual(numbers_in(any_days(some, last, first)), sorted(days))
            self.assertEqual(some, kept)

    def test_no_marks(self):
        for last, first in MONTHS:
            self.assertEqual(any_days([], last, first), 0)
            self.assertEqual(any_days([Mark()], last, first), 0)

    def test_the_same_days_when_asked_again(self):
        for mark, text in every_mark():
            once = [mark.days(last, first) for last, first in MONTHS]
            self.assertEqual([mark.days(last, first) for last, first in MONTHS], once)
            self.assertEqual(mark.told(), text)


class Classes(unittest.TestCase):
    def test_each_stands_straight_under_mark(self):
        self.assertEqual(Mark.__bases__, (object,))
        for kind in UNDER:
            self.assertEqual(kind.__bases__, (Mark,), kind)

    def test_each_has_its_own_methods(self):
        for kind in UNDER + (Mark,):
            self.assertIn("days", vars(kind), kind)
            self.assertIn("told", vars(kind), kind)

    def test_values(self):
        self.assertEqual(Numbers(6).mask, 6)
        self.assertEqual(Weekdays(127).mask, 127)
        self.assertEqual([Last().back, Last(0).back, Last(30).back], [0, 0, 30])
        self.assertEqual(Near(31).day, 31)
        self.assertEqual((Nth(5, 2).weekday, Nth(5, 2).many), (5, 2))
        self.assertEqual(LastOne(6).weekday, 6)

    def test_made_by_the_names_of_their_values(self):
        made = [Numbers(mask=6), Last(back=3), Near(day=15), Weekdays(mask=3), Nth(weekday=5, many=2),
                LastOne(weekday=5)]
        self.assertEqual([mark.told() for mark in made], ["1-2", "L-3", "15W", "0-1", "5#2", "5L"])


class Told(unittest.TestCase):
    def test_each_mark(self):
        for mark, text in every_mark():
            self.assertEqual(mark.told(), text)

    def test_numbers_and_weekdays_of_several(self):
        self.assertEqual(Numbers(mask_of([1, 2, 3, 5, 31])).told(), "1-3,5,31")
        self.assertEqual(Weekdays(mask_of([0, 1, 5])).told(), "0-1,5")

    def test_never_a_star(self):
        self.assertEqual(Numbers(mask_of(list(range(1, 32)))).told(), "1-31")
        self.assertEqual(Weekdays(127).told(), "0-6")

    def test_by_ranges(self):
        chance = random.Random(34)
        for turn in range(100):
            mask = chance.getrandbits(31) * 2 or 2
            self.assertEqual(Numbers(mask).told(), shown_ranges(mask))
            mask = chance.randint(1, 127)
            self.assertEqual(Weekdays(mask).told(), shown_ranges(mask))


class Reading(unittest.TestCase):
    def both(self, marks, told):
        """The marks, in their order, are of these classes and texts."""
        self.assertIs(type(marks), list)
        self.assertEqual([(type(mark), mark.told()) for mark in marks], told)

    def test_a_star_alone(self):
        self.assertIsNone(read_days("*"))
        self.assertIsNone(read_weekdays("*"))

    def test_a_star_beside_other_items(self):
        self.both(read_days("*,5"), [(Numbers, "1-31")])
        self.both(read_days("5,*"), [(Numbers, "1-31")])
        self.both(read_days("*,*"), [(Numbers, "1-31")])
        self.both(read_days("*/1"), [(Numbers, "1-31")])
        self.both(read_days("L,*"), [(Numbers, "1-31"), (Last, "L")])
        self.both(read_weekdays("*,5"), [(Weekdays, "0-6")])
        self.both(read_weekdays("5L,*"), [(Weekdays, "0-6"), (LastOne, "5L")])
        self.both(read_weekdays("*/1"), [(Weekdays, "0-6")])

    def test_plain_items_of_days(self):
        self.both(read_days("5"), [(Numbers, "5")])
        self.both(read_days("31,1,2,2"), [(Numbers, "1-2,31")])
        self.both(read_days("1-5/2,20/5,*/30"), [(Numbers, "1,3,5,20,25,30-31")])

    def test_each_mark_of_days(self):
        self.both(read_days("L"), [(Last, "L")])
        self.both(read_days("LW"), [(LastWork, "LW")])
        for back in range(1, 31):
            self.both(read_days(f"L-{back}"), [(Last, f"L-{back}")])
        for day in range(1, 32):
            self.both(read_days(f"{day}W"), [(Near, f"{day}W")])

    def test_plain_items_of_weekdays(self):
        self.both(read_weekdays("1-5"), [(Weekdays, "1-5")])
        self.both(read_weekdays("5,3,3"), [(Weekdays, "3,5")])
        self.both(read_weekdays("0-6"), [(Weekdays, "0-6")])

    def test_seven_is_sunday(self):
        for text, told in (("7", "0"), ("0,7", "0"), ("5/2", "0,5"), ("*/7", "0"), ("7/1", "0"), ("5-7", "0,5-6"),
                           ("7-7", "0"), ("1-7", "0-6"), ("1/3", "0-1,4"), ("6/1", "0,6"), ("0-7/7", "0"),
                           ("1-7/6", "0-1"), ("6/2", "6"), ("*/2", "0,2,4,6"), ("*/3", "0,3,6")):
            self.both(read_weekdays(text), [(Weekdays, told)])
        self.both(read_weekdays("7#1"), [(Nth, "0#1")])
        self.both(read_weekdays("7L"), [(LastOne, "0L")])
        self.assertEqual(read_weekdays("7#1")[0].weekday, 0)
        self.assertEqual(read_weekdays("7L")[0].weekday, 0)

    def test_each_mark_of_weekdays(self):
        for number in range(8):
            self.both(read_weekdays(f"{number}L"), [(LastOne, f"{number % 7}L")])
            for many in range(1, 6):
                self.both(read_weekdays(f"{number}#{many}"), [(Nth, f"{number % 7}#{many}")])

    def test_plain_items_and_marks_mixed(self):
        self.both(read_days("L,5,LW,1-2,15W,L-3,9"),
                  [(Numbers, "1-2,5,9"), (Last, "L"), (LastWork, "LW"), (Near, "15W"), (Last, "L-3")])
        self.both(read_weekdays("5#2,1,7L,3,2#5"),
                  [(Weekdays, "1,3"), (Nth, "5#2"), (LastOne, "0L"), (Nth, "2#5")])

    def test_marks_keep_their_order_alike_ones_too(self):
        self.both(read_days("LW,L,L,LW,3W,L-1,3W"),
                  [(LastWork, "LW"), (Last, "L"), (Last, "L"), (LastWork, "LW"), (Near, "3W"), (Last, "L-1"),
                   (Near, "3W")])
        self.both(read_weekdays("5L,1#1,5L,0L,7L,1#1"),
                  [(LastOne, "5L"), (Nth, "1#1"), (LastOne, "5L"), (LastOne, "0L"), (LastOne, "0L"), (Nth, "1#1")])

    def test_told_lists_are_the_askers_own(self):
        for read, text in ((read_days, "L,5"), (read_weekdays, "5L,2")):
            told = read(text)
            self.assertIsNot(told, read(text))
            told.clear()
            self.assertEqual(len(read(text)), 2)


class Refusing(unittest.TestCase):
    def refused(self, read, text, at):
        with self.assertRaises(FieldError, msg=text) as taken:
            read(text)
        self.assertIs(type(taken.exception), NoField)
        self.assertEqual(taken.exception.at, at, text)

    def test_what_is_no_text(self):
        for read in (read_days, read_weekdays):
            for thing in NO_TEXTS:
                self.refused(read, thing, 0)

    def wrong_items(self, read, wrong, right):
        for item in wrong:
            self.refused(read, item, 0)
            self.refused(read, f"{item},1", 0)
            for ahead in right:
                self.refused(read, f"{ahead},{item}", 1)
                self.refused(read, f"1,{ahead},{item},x", 2)

    def test_wrong_items_of_days(self):
        self.wrong_items(read_days, (
            "", " ", "0", "32", "0-5", "1-32", "5-1", "00", "01", "1-05", "05/2", "5/0", "5/100", "*/", "l", "lw", "lW",
            "Lw", "15w", "l-3", "L-", "L-0", "L-31", "L-03", "L-00", "L3", "L--3", "L-3W", "L+3", "W", "0W", "32W",
            "015W", "05W", "-1W", "1-5W", "*W", "WL", "15 W", "15W ", " 15W", " L", "L ", "L\n", "L\t", "LL", "LWW",
            "LW-1", "WLW", "1L", "5#2", "1#1", "5L", "L/2", "LW/2", "L-3/2", "15W/2", "?", "mon", "*L", "L*", "L-*",
            "**", "L-\u0663", "\u0661W", "L-1-2", "LW1", "1LW", "9" * 250 + "W", "L-" + "9" * 250),
            ("*", "L", "3W", "1/2"))

    def test_wrong_items_of_weekdays(self):
        self.wrong_items(read_weekdays, (
            "", " ", "8", "0-8", "5-1", "00", "07", "0-07", "1/0", "1/100", "L", "LW", "L-3", "15W", "5l", "8L", "05L",
            "00L", "-1L", "*L", "LL", "5LL", "5 L", "5L ", " 5L", "1-5L", "5L/2", "#", "5#", "#2", "5#0", "5#6", "5#02",
            "05#2", "8#1", "5##2", "5#2#1", "5#-1", "5#1-2", "*#1", "5#*", "5 #2", "5# 2", "5#2 ", " 5#2", "5#2/2",
            "5#2\n", "5L\t", "5#L", "5#2L", "L#1", "1-5#1", "mon", "monL", "?", "\u0665L", "\u0665#1",
            "5#\u0661", "9" * 250 + "L", "5#" + "9" * 250), ("*", "5L", "3#2", "1/2"))

    def test_the_first_wrong_item(self):
        self.refused(read_days, "L,x,LW,y", 1)
        self.refused(read_days, "L,LW,", 2)
        self.refused(read_days, ",L", 0)
        self.refused(read_weekdays, "5L,5#2,8L,9L", 2)
        self.refused(read_weekdays, ",", 0)

    def test_three_hundred_signs(self):
        # No right text of weekdays is longer than this one.
        longest = ",".join(["0-7/99"] * 40)
        self.assertEqual(len(longest), 279)
        self.assertEqual(shown_marks(read_weekdays(longest)), "0")
        right = ",".join(["10-19/10"] * 32 + ["1-3", "1-5/10"])
        self.assertEqual(len(right), 298)
        self.assertEqual(shown_marks(read_days(right + ",1")), "1-3,10")
        self.assertEqual(len(right + ",1"), 300)
        self.refused(read_days, right + ",19", 0)
        for read in (read_days, read_weekdays):
            self.refused(read, "1," + "9" * 298, 1)
            self.refused(read, "1," + "9" * 299, 0)
            self.refused(read, "1," * 150, 40)
            self.refused(read, "1," * 150 + "1", 0)
            self.refused(read, "9" * 10000, 0)

    def test_twenty_marks_and_the_twenty_first(self):
        for read, marks in ((read_days, ["L", "LW", "15W", "L-3"]), (read_weekdays, ["5L", "7#1", "0L", "1#5"])):
            twenty = marks * 5
            self.assertEqual(len(read(",".join(twenty))), 20)
            self.assertEqual(len(read(",".join(twenty + ["1", "2"]))), 21)
            self.assertEqual(len(read(",".join(["1"] * 20 + twenty))), 21)
            for mark in marks:
                self.refused(read, ",".join(twenty + [mark]), 20)
                self.refused(read, ",".join(["1"] + twenty + [mark]), 21)
                self.refused(read, ",".join(twenty + ["1", "2", mark, "x"]), 22)
                self.refused(read, ",".join(twenty + ["*"] * 19 + [mark]), 39)
                self.refused(read, ",".join(twenty + ["1", mark] + ["1"] * 30), 21)
                self.refused(read, ",".join(["1", "x"] + twenty + [mark]), 1)
            self.refused(read, ",".join(twenty + ["x"]), 20)

    def test_forty_items(self):
        for read, mark in ((read_days, "L"), (read_weekdays, "5L")):
            self.assertEqual(len(read(",".join(["1"] * 40))), 1)
            self.assertEqual(len(read(",".join(["*"] * 40))), 1)
            self.refused(read, ",".join(["1"] * 41), 40)
            self.refused(read, ",".join(["1"] * 40) + ",", 40)
            self.refused(read, ",".join(["1"] * 39 + ["x"]), 39)
            self.refused(read, ",".join(["1"] * 39 + ["x", "1"]), 39)
            self.refused(read, ",".join(["1"] * 40 + ["x"]), 40)
            self.refused(read, ",".join(["1"] * 45 + ["x"]), 40)
            self.refused(read, ",".join([mark] * 20 + ["1"] * 20 + [mark]), 40)
            self.refused(read, ",".join(["1"] * 80), 40)


class Showing(unittest.TestCase):
    def test_by_hand(self):
        self.assertEqual(shown_marks(None), "*")
        self.assertEqual(shown_marks([]), "")
        self.assertEqual(shown_marks([Last(), Numbers(6), Last(3)]), "L,1-2,L-3")
        self.assertEqual(shown_marks([Nth(5, 2)]), "5#2")
        self.assertEqual(shown_marks([Weekdays(127)]), "0-6")

    def test_the_list_handed_in_stays(self):
        marks = [Near(3), LastWork()]
        kept = list(marks)
        shown_marks(marks)
        self.assertEqual(marks, kept)

    def again(self, read, text):
        marks = read(text)
        shown = shown_marks(marks)
        once_more = read(shown)
        self.assertEqual(shown_marks(once_more), shown, text)
        self.assertEqual(marks is None, once_more is None)
        if marks is not None:
            for last, first in MONTHS:
                self.assertEqual(any_days(once_more, last, first), any_days(marks, last, first), text)

    def test_read_shown_and_read_again(self):
        for text in ("*", "*,5", "*/1", "L", "L,5,LW,1-2,15W", "1/2", "31W,L-30,LW,LW",
                     ",".join(["L-30"] * 20 + ["1/2"])):
            self.again(read_days, text)
        for text in ("*", "*,5", "*/7", "5/2", "7", "7L", "7#5,1", "1-7", "0,2,4,6," + ",".join(["7#5"] * 20)):
            self.again(read_weekdays, text)

    def test_by_chance(self):
        chance = random.Random(38)
        days = ["*", "5", "31", "1-9/4", "7/9", "L", "LW", "L-3", "L-30", "15W", "31W", "1W", "*/8", "20-25"]
        weekdays = ["*", "5", "7", "0", "1-7/4", "5/2", "7L", "0L", "5L", "7#5", "1#1", "3#5", "*/7", "2-4"]
        for turn in range(400):
            self.again(read_days, ",".join(chance.choices(days, k=chance.randint(1, 20))))
            self.again(read_weekdays, ",".join(chance.choices(weekdays, k=chance.randint(1, 20))))


if __name__ == "__main__":
    unittest.main()
