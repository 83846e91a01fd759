"""[0.2], [0.5], [0.6], [7.1], [7.2]: two books held against one another."""

import random
import time
import unittest

from fivefields.against import against, parted_from, shared_from
from fivefields.books import Book, Joined, Less, Met, Of, Turned
from fivefields.days import day_of
from fivefields.moments import read_moment
from fivefields.months import month_at, next_of_kind
from fivefields.rows import read_row
from fivefields.sheets import first_from, sheet_of

# The calendar comes again by these minutes.
ROUND = 210379680
FAR = (0, -ROUND, 10 ** 59 // ROUND * ROUND, -10 ** 59 // ROUND * ROUND)
TURNED_ABOUT = {"alike": "alike", "within": "around", "around": "within", "apart": "apart", "across": "across"}


def of(text):
    return Of(read_row(text))


ALL = Turned(Book())
WORK = of("*/30 9-17 * * 1-5")
NOON = of("0 12 * * *")
LEAP = of("* * 29 2 *")
# February's 29th on a Thursday: as in 1872 and then in 1912.
SELDOM = Met([of("5 8 29 2 *"), of("* * * * 4")])
NEVER = (Book(), of("0 0 30 2 *"), Less(WORK, WORK), Met([NOON, Turned(NOON)]), Turned(ALL))
ALIKE = (
    (Turned(Joined([WORK, LEAP])), Met([Turned(WORK), Turned(LEAP)])),
    (Turned(Met([WORK, NOON])), Joined([Turned(NOON), Turned(WORK)])),
    (Less(WORK, NOON), Met([Turned(NOON), WORK])),
    (of("0 0 29 2 *"), of("0 0 29,30,31 2 *")),
    (of("0 0 * 2 0#5,1#5,2#5,3#5,4#5,5#5,6#5"), of("0 0 29 2 *")),
    (SELDOM, of("5 8 * 2 4#5")),
    (ALL, of("* * * * *")),
    (WORK, WORK),
    (of("0 9 1 * 1"), Joined([of("0 9 1 * *"), of("0 9 * * 1")])),
)
WITHIN = (
    (NOON, of("* 12 * * *")), (Less(NOON, WORK), NOON), (Met([NOON, WORK]), WORK), (WORK, ALL), (SELDOM, LEAP),
    (WORK, Joined([WORK, of("0 0 * 2 6#5")])), (Turned(Joined([NOON, SELDOM])), Turned(NOON)),
    (of("0 0 1-30 * *"), of("0 0 * * *")), (of("0 0 15 * *"), of("0 0 15 * 1")),
    (of("0 0 28 2 *"), of("0 0 28,L 2 *")), (of("59 23 L 12 *"), of("58-59 23 31 12 *")),
)
APART = (
    (of("0 0 * * 1"), of("0 0 * * 2")), (WORK, Turned(WORK)), (of("0 0 * * *"), of("1 0 * * *")),
    (LEAP, of("* * 28 2 *")),
    (SELDOM, of("* * * 2 0-3,5,6")), (of("0 0 L 2 *"), of("0 0 27,30,31 2 *")), (of("* * * 1 *"), of("* * * 2-12 *")),
)
ACROSS = (
    (WORK, NOON), (of("0 0 15 * *"), of("0 0 15W * *")), (of("0 0 * * 1#4"), of("0 0 * * 1L")),
    (LEAP, of("* * 28 2 1")),
    # They meet on February's 29th of one weekday alone.
    (of("5 8 * 1,2 4#5"), LEAP), (Joined([NOON, SELDOM]), Less(of("* * * * *"), of("* 9-17 * * *"))),
    # Without it the one would lie within the other.
    (Joined([Met([NOON, WORK]), SELDOM]), WORK),
)


def greatest(shift):
    """A book that counts 24."""
    rows = [of(f"{(7 * k + shift) % 60}-59/7 {k % 24} {k + 1},L,{k + 2}W {k % 12 + 1},2 {k % 7}#2,{(k + 3) % 7}L")
            for k in range(18)]
    return Joined([Joined(rows[:7]), Less(Joined(rows[7:13]), rows[13]), Met([Turned(rows[14])] + rows[15:18])])


def points(book):
    """The kinds, days and some times at which a book holds, asked of holds in a year that has the kind."""
    held = set()
    for kind in range(91):
        month, last, first = month_at(kind)
        start = 1440 * day_of(next_of_kind(kind, 1990), month, 1)
        for day in range(last):
            for clock in (0, 485, 539, 540, 720, 721, 1439):
                if book.holds(start + 1440 * day + clock):
                    held.add((kind, day, clock))
    return held


def word_by_points(one, other):
    if one == other:
        return "alike"
    if one <= other:
        return "within"
    if other <= one:
        return "around"
    return "across" if one & other else "apart"


class Against(unittest.TestCase):
    def check(self, one, other, word):
        self.assertEqual(against(one, other), word)
        self.assertEqual(against(other, one), TURNED_ABOUT[word])

    def test_alike(self):
        for one, other in ALIKE:
            self.check(one, other, "alike")

    def test_within_and_around(self):
        for place, (one, other) in enumerate(WITHIN):
            with self.subTest(place=place):
                self.check(one, other, "within")

    def test_apart(self):
        for place, (one, other) in enumerate(APART):
            with self.subTest(place=place):
                self.check(one, other, "apart")

    def test_across(self):
        for place, (one, other) in enumerate(ACROSS):
            with self.subTest(place=place):
                self.check(one, other, "across")

    def test_books_that_never_hold(self):
        # They are within, around and apart, too: the first word is told.
        for one in NEVER:
            for other in NEVER:
                self.check(one, other, "alike")
            for other in (WORK, SELDOM, ALL, LEAP):
                self.check(one, other, "within")

    def test_each_weekday_of_the_29th(self):
        for day in range(7):
            seldom = of(f"0 0 * 2 {day}#5")
            self.check(NOON, Joined([NOON, seldom]), "within")
            self.check(ALL, Turned(seldom), "around")
            self.check(of("0 12 29 2 *"), seldom, "apart")
            self.check(of("0 0 29 2 *"), seldom, "around")
            for other in range(day):
                self.check(seldom, of(f"0 0 * 2 {other}#5"), "apart")

    def test_against_holds(self):
        books = [NOON, of("0 9,12 * * 1-5"), LEAP, SELDOM, of("0 0,9,12 * * *"), of("59 23 L * *"),
                 of("0 0 1 * 1"), of("0 12 * * 1-5"), of("0 0 * 2 3#5"), Less(NOON, of("* * 29 2 *")),
                 Met([of("0,59 * * * *"), Turned(LEAP)])]
        held = [points(book) for book in books]
        told = {}
        for one, ones in zip(books, held):
            for other, others in zip(books, held):
                word = against(one, other)
                self.assertEqual(word, word_by_points(ones, others))
                told[word] = True
        self.assertEqual(len(told), 5)

    def test_books_of_the_greatest_size(self):
        begin = time.perf_counter()
        one, other = greatest(0), greatest(7)
        self.assertEqual([one.tally(), other.tally()], [24, 24])
        self.assertEqual(against(one, greatest(0)), "alike")
        self.check(one, other, "across")
        self.assertIsNone(parted_from(one, greatest(0), 10 ** 59))
        for moment in (0, -10 ** 59, 10 ** 59):
            found = parted_from(one, other, moment)
            self.assertNotEqual(one.holds(found), other.holds(found))
            found = shared_from(one, other, moment)
            self.assertTrue(one.holds(found) and other.holds(found))
        self.assertLess(time.perf_counter() - begin, 20)


class FirstOfTwo(unittest.TestCase):
    def walked(self, moment, wanted):
        while not wanted(moment):
            moment += 1
        return moment

    def check(self, one, other, moment):
        self.assertEqual(parted_from(one, other, moment),
                         self.walked(moment, lambda at: one.holds(at) != other.holds(at)))
        self.assertEqual(shared_from(one, other, moment),
                         self.walked(moment, lambda at: one.holds(at) and other.holds(at)))

    def test_against_a_walk(self):
        chance = random.Random(72)
        often = (of("*/7 * * * *"), of("*/5 * * * *"), of("0,30 */3 * * *"), Turned(WORK), of("* * * * 1,3,5,6"),
                 Less(of("*/2 * * * *"), LEAP), of("0 */2 * * *"))
        for one in often:
            for other in often:
                if one is not other:
                    for far in FAR:
                        self.check(one, other, far + chance.randrange(ROUND))

    def test_the_moment_itself(self):
        for far in FAR:
            moment = read_moment("2024-11-18 12:00") + far
            self.assertEqual(shared_from(WORK, NOON, moment), moment)
            self.assertEqual(parted_from(WORK, NOON, moment), moment + 30)
            self.assertEqual(parted_from(WORK, NOON, moment + 30), moment + 30)
            self.assertEqual(shared_from(WORK, NOON, moment + 1), moment + 1440)
            self.assertEqual(parted_from(NOON, Book(), moment), moment)
            self.assertEqual(shared_from(NOON, NOON, moment), moment)

    def test_none_just_where_it_is_told(self):
        for moment in (0, -1, 10 ** 59, -10 ** 59, 10 ** 60, -10 ** 60):
            for one, other in ALIKE:
                self.assertIsNone(parted_from(one, other, moment))
                self.assertEqual(shared_from(one, other, moment), first_from(one, moment))
            for one, other in WITHIN + ACROSS:
                self.assertGreaterEqual(parted_from(one, other, moment), moment)
                self.assertGreaterEqual(shared_from(other, one, moment), moment)
            for one, other in APART:
                self.assertGreaterEqual(parted_from(one, other, moment), moment)
                self.assertIsNone(shared_from(one, other, moment))
            for one in NEVER:
                self.assertIsNone(parted_from(one, Book(), moment))
                self.assertIsNone(shared_from(one, ALL, moment))
                self.assertIsNone(shared_from(NOON, one, moment))
                self.assertEqual(parted_from(NOON, one, moment), first_from(NOON, moment))

    def test_forty_years_between(self):
        for one, other in ((WORK, Joined([WORK, SELDOM])), (SELDOM, Book()), (ALL, Turned(SELDOM)),
                           (of("5 8 29 2 *"), Less(of("5 8 29 2 *"), SELDOM))):
            for far in FAR:
                first, second = read_moment("1872-02-29 08:05") + far, read_moment("1912-02-29 08:05") + far
                self.assertEqual(parted_from(one, other, first), first)
                self.assertEqual(parted_from(one, other, first + 1), second)
                self.assertEqual(parted_from(other, one, first + 1), second)
        for one, other in ((of("5 8 29 2 *"), of("* * * * 4")), (ALL, SELDOM), (of("5 8 * 2 4#5"), LEAP)):
            for far in FAR:
                first, second = read_moment("1872-02-29 08:05") + far, read_moment("1912-02-29 08:05") + far
                self.assertEqual(shared_from(one, other, first), first)
                self.assertEqual(shared_from(one, other, first + 1), second)
                self.assertEqual(shared_from(other, one, second), second)

    def test_they_part_where_sheets_are_unlike(self):
        for one, other in ALIKE + WITHIN + APART + ACROSS:
            self.assertEqual(sheet_of(one) == sheet_of(other), parted_from(one, other, 7) is None)
            self.assertEqual(sheet_of(one) == sheet_of(other), against(one, other) == "alike")

    def test_books_stay_as_they_are(self):
        books = [WORK, SELDOM]
        one, other = Joined(books), Less(NOON, LEAP)
        sheets = [sheet_of(one), sheet_of(other)]
        for turn in range(2):
            self.assertEqual(against(one, other), "across")
            parted = parted_from(one, other, 0), shared_from(one, other, 0)
            books.append(NOON)
            self.assertEqual((parted_from(one, other, 0), shared_from(one, other, 0)), parted)
        self.assertEqual([sheet_of(one), sheet_of(other)], sheets)
        self.assertEqual(one.books, (WORK, SELDOM))


if __name__ == "__main__":
    unittest.main()
