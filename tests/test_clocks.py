"""[0.2], [0.3], [8.1], [8.2], [8.3]: clocks with one offset, and those that are put forward and back."""

import random
import unittest

from fivefields.books import Of
from fivefields.clocks import Clock, Shifted
from fivefields.errors import FieldError, NoClock
from fivefields.leaps import last_to
from fivefields.moments import read_moment
from fivefields.rows import read_row

ROUND = 210379680
FAR = (0, -ROUND, 10 ** 59 // ROUND * ROUND, -10 ** 59 // ROUND * ROUND)
SUMMER = (("0 1 * 3 0L", 60), ("0 1 * 10 0L", 0))
WILD = (("0 0 1 * *", 720), ("0 0 4 * *", -720), ("0 0 7 * *", 720), ("30 12 15 * *", -719))
BACK = (("0 12 10 * *", 700), ("0 12 13 * *", 60), ("0 12 16 * *", -720))
ONE = (("17 3 L 1 *", 30),)
SELDOM = (("5 8 * 2 4#5", 90),)
MIXED = (("5 8 * 2 4#5", 90), ("0 0 1 1 *", -30))
ALL_PUTS = (SUMMER, WILD, BACK, ONE, SELDOM, MIXED)


def rows_of(puts):
    return [(read_row(text), offset) for text, offset in puts]


def made(puts):
    return Shifted(rows_of(puts))


def put_by_leaps(puts, true):
    """The last put up to a moment, as a tuple (moment, offset), asked of the leaps of each row."""
    return max([(last_to(row, true)[0], offset) for row, offset in rows_of(puts)])


class OneOffset(unittest.TestCase):
    def test_it_is_the_same_at_all_moments(self):
        for base in (0, 1, -1, 60, 719, 720, -719, -720):
            clock = Clock(base)
            for true in (0, -1, 1, 10 ** 59, -10 ** 59, 10 ** 60, -10 ** 60):
                self.assertEqual(clock.offset_at(true), base)
                self.assertEqual(clock.local(true), true + base)
                self.assertIsNone(clock.put_at(true))

    def test_left_out(self):
        self.assertEqual(Clock().offset_at(7), 0)
        self.assertEqual(Clock().local(7), 7)
        self.assertEqual(Clock(base=-5).local(7), 2)

    def test_refused(self):
        for base in (True, False, None, "0", 1.0, [], (5,), 721, -721, 10 ** 60, -10 ** 60):
            with self.assertRaises(NoClock) as caught:
                Clock(base)
            self.assertIs(type(caught.exception), NoClock)


class Refused(unittest.TestCase):
    def refuse(self, puts):
        with self.assertRaises(FieldError) as caught:
            Shifted(puts)
        self.assertIs(type(caught.exception), NoClock)

    def test_what_is_no_list_of_one_to_four(self):
        row = read_row("0 0 1 1 *")
        for puts in (None, True, 5, "", "abc", (), ((row, 5),), {}, {row: 5}, [], row, Clock(5)):
            self.refuse(puts)
        five = [(read_row(f"0 0 1 {month} *"), month) for month in range(1, 6)]
        self.refuse(five)
        self.refuse(five + five)
        for many in range(1, 5):
            self.assertEqual(Shifted(five[:many]).offset_at(read_moment("2024-12-01 00:00")), many)

    def test_what_is_no_tuple_of_two(self):
        row = read_row("0 0 1 1 *")
        good = (read_row("0 0 1 6 *"), 7)
        for thing in ((), (row,), (row, 5, 5), [row, 5], row, 5, None, "ab", {0: row, 1: 5}, ((row, 5),)):
            self.refuse([thing])
            self.refuse([good, thing])
            self.refuse([thing, good])

    def test_what_is_no_row(self):
        for thing in ("0 0 1 1 *", None, 5, True, Of(read_row("0 0 1 1 *")), [read_row("0 0 1 1 *")], Clock(0)):
            self.refuse([(thing, 5)])
            self.refuse([(read_row("0 0 1 6 *"), 7), (thing, 5)])
        self.refuse([(5, read_row("0 0 1 1 *"))])

    def test_what_is_no_offset(self):
        row = read_row("0 0 1 1 *")
        for offset in (True, False, None, "0", 1.0, [], (5,), 721, -721, 10 ** 60, -10 ** 60):
            self.refuse([(row, offset)])
            self.refuse([(read_row("0 0 1 6 *"), 7), (row, offset)])
        for offset in (720, -720, 0, 719):
            self.assertEqual(Shifted([(row, offset)]).offset_at(0), offset)

    def test_a_row_that_never_holds(self):
        for text in ("0 0 30 2 *", "* * 31 4,6 *", "0 0 L-29 2 *", "0 0 30,31 2 *"):
            self.refuse([(read_row(text), 5)])
            self.refuse([(read_row("0 0 1 6 *"), 7), (read_row(text), 5)])

    def test_rows_that_share_a_moment(self):
        row = read_row("0 0 1 1 *")
        self.refuse([(row, 5), (row, 5)])
        self.refuse([(row, 5), (read_row("0 0 1 1 *"), 6)])
        # They share February's 29th where it is a Monday, and lie far apart else.
        self.refuse(rows_of((("0 0 29 2 *", 5), ("0 0 * 2 1#5", 6))))
        self.refuse(rows_of((("0 0 * 2 1#5", 6), ("0 0 15 8 *", 6), ("0 0 29 2 *", 5))))

    def test_of_one_row_too_near(self):
        for text in ("0 0 * * *", "* * * * *", "0 0,1 1 1 *", "0,59 0 1 1 *", "0,1 7 1 1 *", "0,59 0,23 10,12 3 *",
                     "0 0 10,12 3 *", "0 0 10,11 3 *", "0 0 31,2 * *", "0 0 * * 1,3", "0 0 1,L * *", "0 0 * * 0,5",
                     "0 0 27,1 2,3 *", "0 0 29,2 2,3 *", "0 0 31 12 0", "0 0 * 2 2,4#5", "0 0 15,15W * *",
                     "0 0 1,28 * *", "0 0 1,28 2-3 *"):
            self.refuse(rows_of(((text, 5),)))
        for text in ("0 0 10,13 3 *", "0 0 * * 1,4", "0 0 * * 1", "0 0 1,25 * *", "0 0 */3 6 *", "0 0 L,3 * *",
                     "0 0 1,4,7,10,13,16,19,22,25 * *", "0 0 * 2 1,4#5", "0 0 28,3 2-3 *"):
            self.assertIsInstance(made(((text, 5),)), Shifted)

    def test_of_two_rows_too_near(self):
        for one, other, taken in (
                ("0 0 10 3 *", "0 0 13 3 *", True), ("0 0 10 3 *", "59 23 12 3 *", False),
                ("1 0 10 3 *", "0 0 13 3 *", False), ("0 0 10 3 *", "1 0 13 3 *", True),
                # over the end of a year
                ("0 0 31 12 *", "0 0 2 1 *", False), ("0 0 31 12 *", "0 0 3 1 *", True),
                ("0 0 31 12 *", "59 23 2 1 *", False), ("1 0 31 12 *", "0 0 3 1 *", False),
                # over the end of February, short and long
                ("0 0 27 2 *", "0 0 1 3 *", False), ("0 0 26 2 *", "0 0 1 3 *", True),
                ("1 0 26 2 *", "0 0 1 3 *", False), ("0 0 26 2 *", "59 23 28 2 *", False),
                ("0 0 29 2 *", "0 0 2 3 *", False), ("0 0 29 2 *", "0 0 3 3 *", True),
                ("0 0 29 2 *", "59 23 2 3 *", False), ("0 0 L 2 *", "0 0 3 3 *", True),
                ("0 0 L 2 *", "59 23 2 3 *", False), ("0 0 L 2 *", "0 0 2 3 *", False),
                # near in a kind of month that comes seldom alone
                ("5 8 * 2 4#5", "0 0 2 3 *", False), ("5 8 * 2 4#5", "4 8 3 3 *", False),
                ("5 8 * 2 4#5", "5 8 3 3 *", True), ("5 8 * 2 4#5", "5 8 26 2 *", True),
                ("5 8 * 2 4#5", "6 8 26 2 *", False)):
            for puts in (((one, 5), (other, 9)), ((other, 5), (one, 9)), ((one, 5), ("0 0 1 8 *", 0), (other, 9))):
                with self.subTest(puts=puts):
                    if taken:
                        self.assertIsInstance(made(puts), Shifted)
                    else:
                        self.refuse(rows_of(puts))

    def test_alike_offsets_are_puts_too(self):
        self.refuse(rows_of((("0 0 10 3 *", 5), ("0 0 12 3 *", 5))))


class PutForwardAndBack(unittest.TestCase):
    def check(self, puts, clock, true):
        when, behind = put_by_leaps(puts, true)
        ahead = put_by_leaps(puts, when - 1)[1]
        told = clock.put_at(true)
        self.assertIs(type(told), tuple)
        self.assertEqual(told, (when, ahead, behind))
        self.assertEqual(clock.offset_at(true), behind)
        self.assertEqual(clock.local(true), true + behind)

    def test_against_the_leaps_of_its_rows(self):
        chance = random.Random(83)
        for puts in ALL_PUTS:
            clock = made(puts)
            for far in FAR:
                for turn in range(12):
                    true = far + chance.randrange(-ROUND, ROUND)
                    self.check(puts, clock, true)
                    when = clock.put_at(true)[0]
                    for at in (when - 1, when, when + 1):
                        self.check(puts, clock, at)

    def test_about_the_ends_of_rounds(self):
        for puts in ALL_PUTS:
            clock = made(puts)
            for far in FAR:
                for true in (far - 1, far, far + 1, far + ROUND - 1, far + 1440, far - 1440):
                    self.check(puts, clock, true)

    def test_minute_by_minute(self):
        for puts in (WILD, BACK):
            clock, rows = made(puts), rows_of(puts)
            for far in (0, 10 ** 59 // ROUND * ROUND):
                true = read_moment("2024-02-26 00:00") + far
                offset = put_by_leaps(puts, true)[1]
                for step in range(8 * 1440):
                    for row, other in rows:
                        if row.holds(true):
                            offset = other
                    self.assertEqual(clock.offset_at(true), offset)
                    true += 1

    def test_by_hand(self):
        clock = made(SUMMER)
        spring, autumn = read_moment("2024-03-31 01:00"), read_moment("2024-10-27 01:00")
        before = read_moment("2023-10-29 01:00")
        for far in FAR:
            self.assertEqual(clock.put_at(spring + far), (spring + far, 0, 60))
            self.assertEqual(clock.put_at(autumn + far), (autumn + far, 60, 0))
            self.assertEqual(clock.put_at(autumn + far - 1), (spring + far, 0, 60))
            self.assertEqual(clock.put_at(spring + far - 1), (before + far, 60, 0))
            self.assertEqual([clock.local(spring + far + step) - far for step in (-1, 0)], [spring - 1, spring + 60])
            self.assertEqual([clock.local(autumn + far + step) - far for step in (-1, 0)], [autumn + 59, autumn])

    def test_one_put(self):
        for far in FAR:
            clock = made(SELDOM)
            first, second = read_moment("1872-02-29 08:05") + far, read_moment("1912-02-29 08:05") + far
            self.assertEqual(clock.put_at(second - 1), (first, 90, 90))
            self.assertEqual(clock.put_at(second), (second, 90, 90))
            self.assertEqual(clock.put_at(first), (first, 90, 90))

    def test_forty_years_between(self):
        clock = made(MIXED)
        for far in FAR:
            first = read_moment("1872-02-29 08:05") + far
            self.assertEqual(clock.put_at(first), (first, -30, 90))
            new_year = read_moment("1873-01-01 00:00") + far
            self.assertEqual(clock.put_at(new_year - 1), (first, -30, 90))
            self.assertEqual(clock.put_at(new_year), (new_year, 90, -30))
            for year in range(1873, 1912):
                begin = read_moment(f"{year}-01-01 00:00") + far
                self.assertEqual(clock.offset_at(begin + 200000), -30)
                self.assertEqual(clock.put_at(begin + 200000), (begin, 90 if year == 1873 else -30, -30))
            self.assertEqual(clock.offset_at(read_moment("1912-02-29 08:05") + far), 90)

    def test_puts_may_be_changed_behind(self):
        puts = rows_of(SUMMER)
        clock = Shifted(puts)
        moments = [read_moment(f"2024-{month:02}-15 00:00") for month in range(1, 13)]
        told = [clock.put_at(moment) for moment in moments]
        puts[0] = (read_row("0 0 1 7 *"), -700)
        self.assertEqual([clock.put_at(moment) for moment in moments], told)
        puts.clear()
        self.assertEqual([clock.put_at(moment) for moment in moments], told)
        self.assertEqual([clock.offset_at(moment) for moment in moments], [0] * 3 + [60] * 7 + [0] * 2)

    def test_puts_are_not_changed(self):
        puts = rows_of(WILD)
        kept = list(puts)
        clock = Shifted(puts)
        clock.put_at(0)
        self.assertEqual(puts, kept)

    def test_classes(self):
        self.assertEqual(Shifted.__bases__, (Clock,))
        self.assertEqual(Clock.__bases__, (object,))
        for name in ("offset_at", "local", "put_at"):
            self.assertIn(name, Clock.__dict__)
            self.assertIn(name, Shifted.__dict__)


if __name__ == "__main__":
    unittest.main()
