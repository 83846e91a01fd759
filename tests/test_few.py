"""[0.2], [4.7], [4.8]: few rows for the times of a day."""

import random
import unittest

from fivefields.few import rows_for

ALL = 2 ** 1440 - 1


def times_from(cells):
    return sum(2 ** (60 * hour + minute) for hour, minute in set(cells))


def cells_of(times):
    return {(hour, minute) for hour in range(24) for minute in range(60) if times >> (60 * hour + minute) & 1}


def bits(mask):
    return [number for number in range(mask.bit_length()) if mask >> number & 1]


def unmade(sets):
    """How many unlike sets, not empty, are not made of those that lie within them."""
    unlike = {frozenset(one) for one in sets if one}
    return len([one for one in unlike if frozenset().union(*[other for other in unlike if other < one]) != one])


def hours_sets(cells):
    return [{minute for other, minute in cells if other == hour} for hour in range(24)]


def minutes_sets(cells):
    return [{hour for hour, other in cells if other == minute} for minute in range(60)]


def nested_or_apart(sets):
    return all(one <= other or other <= one or not one & other for one in sets for other in sets)


def fit_one_row(one, other, cells):
    return (one[0], other[1]) in cells and (other[0], one[1]) in cells


def drawn(chance, many_hours, many_minutes, share):
    """Times in some hours and minutes by chance, about share in a hundred of them."""
    hours = chance.sample(range(24), many_hours)
    minutes = chance.sample(range(60), many_minutes)
    return times_from((hour, minute) for hour in hours for minute in minutes if chance.randint(1, 100) <= share)


def nested(chance):
    """Times whose hours' masks lie within one another or apart."""
    families = [list(range(60))]
    for turn in range(chance.randint(1, 12)):
        parent = list(chance.choice(families))
        chance.shuffle(parent)
        cut = chance.randint(1, len(parent))
        family = [set(parent[:cut]), set(parent[cut:])]
        if all(nested_or_apart([one] + [set(other) for other in families]) for one in family):
            families += [sorted(one) for one in family if one]
    return times_from((hour, minute) for hour in range(24) for minute in chance.choice(families + [[]]))


class RowsFor(unittest.TestCase):
    def promised(self, times):
        told = rows_for(times)
        self.assertIs(type(told), tuple)
        rows, pairs = told
        self.assertIs(type(rows), list)
        self.assertIs(type(pairs), list)
        cells = cells_of(times)
        self.rows_come_to(rows, cells)
        self.pairs_stand_apart(pairs, cells)
        self.assertLessEqual(len(rows), unmade(hours_sets(cells)))
        self.assertLessEqual(len(rows), unmade(minutes_sets(cells)))
        self.assertLessEqual(len(pairs), len(rows))
        if nested_or_apart(hours_sets(cells)):
            self.assertEqual(len(pairs), len(rows))
        return told

    def rows_come_to(self, rows, cells):
        come_to = set()
        for row in rows:
            self.assertIs(type(row), tuple)
            hours, minutes = row
            self.assertGreater(hours, 0)
            self.assertGreater(minutes, 0)
            come_to |= {(hour, minute) for hour in bits(hours) for minute in bits(minutes)}
        self.assertEqual(come_to, cells)

    def pairs_stand_apart(self, pairs, cells):
        for place, pair in enumerate(pairs):
            self.assertIs(type(pair), tuple)
            self.assertIn(pair, cells)
            for other in pairs[:place]:
                self.assertFalse(fit_one_row(pair, other, cells), (pair, other))
        for cell in cells:
            self.assertTrue(any(fit_one_row(cell, pair, cells) for pair in pairs), cell)

    def test_no_times(self):
        self.assertEqual(rows_for(0), ([], []))

    def test_one_minute(self):
        for hour, minute in ((0, 0), (0, 59), (23, 0), (23, 59), (9, 30)):
            told = self.promised(times_from([(hour, minute)]))
            self.assertEqual(told, ([(2 ** hour, 2 ** minute)], [(hour, minute)]))

    def test_all_minutes_of_a_day(self):
        rows, pairs = self.promised(ALL)
        self.assertEqual(rows, [(2 ** 24 - 1, 2 ** 60 - 1)])
        self.assertEqual(len(pairs), 1)

    def test_all_but_one_minute(self):
        for hour, minute in ((0, 0), (12, 30), (23, 59)):
            rows, pairs = self.promised(ALL - times_from([(hour, minute)]))
            self.assertEqual(len(rows), 2)

    def test_one_row(self):
        for hours, minutes in (([3], range(60)), (range(24), [7]), ([1, 5, 23], [0, 30]), (range(24), range(60))):
            rows, pairs = self.promised(times_from((hour, minute) for hour in hours for minute in minutes))
            self.assertEqual((len(rows), len(pairs)), (1, 1))

    def test_a_minute_of_its_own_for_each_hour(self):
        rows, pairs = self.promised(times_from((hour, hour + 5) for hour in range(24)))
        self.assertEqual((len(rows), len(pairs)), (24, 24))

    def test_rows_that_overlap(self):
        first = [(hour, minute) for hour in range(0, 10) for minute in range(0, 30)]
        second = [(hour, minute) for hour in range(5, 15) for minute in range(20, 50)]
        rows, pairs = self.promised(times_from(first + second))
        self.assertEqual((len(rows), len(pairs)), (2, 2))
        third = [(hour, minute) for hour in range(8, 20) for minute in range(10, 60, 7)]
        self.promised(times_from(first + second + third))

    def test_an_hours_mask_that_is_made(self):
        # The third hour has what the first two have together, so two rows are enough.
        rows, pairs = self.promised(times_from([(0, 1), (1, 2), (2, 1), (2, 2)]))
        self.assertEqual((len(rows), len(pairs)), (2, 2))

    def test_fewer_by_minutes_than_by_hours(self):
        # Seven hours with each set of three minutes, not empty: all but three hours' masks are made.
        # And seven minutes turned about: all but three minutes' masks are made.
        for turned in (False, True):
            cells = [(one - 1, two) for one in range(1, 8) for two in range(3) if one >> two & 1]
            cells = [(two, one) for one, two in cells] if turned else cells
            rows, pairs = self.promised(times_from(cells))
            self.assertEqual((len(rows), len(pairs)), (3, 3))
        # Each two of five, as hours: by hours ten masks are not made, by minutes five.
        cells = [(hour, minute) for hour, both in enumerate((one, two) for one in range(5) for two in range(one))
                 for minute in both]
        self.assertEqual((unmade(hours_sets(cells)), unmade(minutes_sets(cells))), (10, 5))
        self.promised(times_from(cells))
        self.promised(times_from((minute, hour) for hour, minute in cells))

    def test_hours_masks_that_lie_within_one_another(self):
        rows, pairs = self.promised(times_from((hour, minute) for hour in range(24) for minute in range(hour + 1)))
        self.assertEqual((len(rows), len(pairs)), (24, 24))
        rows, pairs = self.promised(times_from((hour, minute) for hour in range(24) for minute in range(60 - 2 * hour)))
        self.assertEqual((len(rows), len(pairs)), (24, 24))
        # Two apart, and around them one that is made and one that isn't.
        cells = [(0, 1), (1, 2), (2, 1), (2, 2), (3, 1), (3, 2), (3, 3)]
        rows, pairs = self.promised(times_from(cells))
        self.assertEqual((len(rows), len(pairs)), (3, 3))

    def test_nested_ones_by_chance(self):
        chance = random.Random(47)
        for turn in range(200):
            times = nested(chance)
            self.assertTrue(nested_or_apart(hours_sets(cells_of(times))))
            self.promised(times)

    def test_by_chance(self):
        chance = random.Random(48)
        for turn in range(160):
            share = chance.choice((5, 20, 50, 80, 95))
            self.promised(drawn(chance, chance.randint(1, 24), chance.randint(1, 60), share))

    def test_few_hours_or_few_minutes_by_chance(self):
        chance = random.Random(49)
        for turn in range(200):
            self.promised(drawn(chance, chance.randint(2, 5), chance.randint(2, 6), 60))
            self.promised(drawn(chance, 24, chance.randint(1, 4), 50))
            self.promised(drawn(chance, chance.randint(1, 4), 60, 50))

    def test_rows_joined_by_chance(self):
        chance = random.Random(50)
        for turn in range(120):
            cells = set()
            for row in range(chance.randint(1, 8)):
                hours = chance.sample(range(24), chance.randint(1, 8))
                minutes = chance.sample(range(60), chance.randint(1, 20))
                cells |= {(hour, minute) for hour in hours for minute in minutes}
            self.promised(times_from(cells))

    def test_told_lists_are_the_askers_own(self):
        for times in (0, 1, ALL, times_from([(0, 1), (1, 2), (2, 3)])):
            rows, pairs = rows_for(times)
            once_more = rows_for(times)
            self.assertEqual(once_more, (rows, pairs))
            self.assertIsNot(rows, pairs)
            self.assertIsNot(once_more[0], rows)
            self.assertIsNot(once_more[1], pairs)
            rows.append("x")
            pairs.clear()
            self.assertEqual(rows_for(times), once_more)


if __name__ == "__main__":
    unittest.main()
