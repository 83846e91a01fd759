"""[2.4], [2.6]: the ranges of a mask."""

import random
import unittest

from fivefields.ranges import lowest, ranges_of, shown_ranges, starts_of

ALL = 2 ** 64 - 1


def mask_from(numbers):
    return sum(2 ** number for number in set(numbers))


def some_masks():
    """Masks of each number by itself, of all but it, of runs up to and from it, and some by a told chance."""
    masks = [0, 1, 2, 3, ALL, ALL - 1, 2 ** 63, 2 ** 63 + 1, mask_from(range(0, 64, 2)), mask_from(range(1, 64, 2))]
    for number in range(64):
        masks += [2 ** number, ALL - 2 ** number, 2 ** number - 1, ALL - (2 ** number - 1)]
    chance = random.Random(5)
    masks += [chance.getrandbits(64) for turn in range(300)]
    masks += [chance.getrandbits(64) & chance.getrandbits(64) & chance.getrandbits(64) for turn in range(300)]
    return masks


class Ranges(unittest.TestCase):
    def test_some_masks_by_hand(self):
        for numbers, ranges, text in (
                ([], [], ""),
                ([0], [(0, 0)], "0"),
                ([63], [(63, 63)], "63"),
                ([0, 1], [(0, 1)], "0-1"),
                ([5, 6, 7, 9], [(5, 7), (9, 9)], "5-7,9"),
                ([0, 2, 4], [(0, 0), (2, 2), (4, 4)], "0,2,4"),
                ([0, 1, 2, 10, 11, 40, 62, 63], [(0, 2), (10, 11), (40, 40), (62, 63)], "0-2,10-11,40,62-63"),
                (range(64), [(0, 63)], "0-63"),
                ([number for number in range(64) if number != 30], [(0, 29), (31, 63)], "0-29,31-63")):
            mask = mask_from(numbers)
            self.assertEqual(ranges_of(mask), ranges)
            self.assertEqual(starts_of(mask), [first for first, last in ranges])
            self.assertEqual(shown_ranges(mask), text)

    def test_ranges_tell_the_mask_and_stand_apart(self):
        for mask in some_masks():
            ranges = ranges_of(mask)
            told = [number for first, last in ranges for number in range(first, last + 1)]
            self.assertEqual(told, [number for number in range(64) if mask >> number & 1])
            for (first, last), (later, end) in zip(ranges, ranges[1:]):
                self.assertLess(last + 1, later)
            for first, last in ranges:
                self.assertLessEqual(first, last)

    def test_starts(self):
        for mask in some_masks():
            starts = [number for number in range(64)
                      if mask >> number & 1 and (number == 0 or not mask >> (number - 1) & 1)]
            self.assertEqual(starts_of(mask), starts)
            self.assertEqual(len(starts), len(ranges_of(mask)))

    def test_no_fewer_ranges_than_starts(self):
        """Of all small masks, the fewest runs within them that come to them are as many as the starts."""
        runs = [(mask_from(range(first, last + 1))) for first in range(6) for last in range(first, 6)]
        fewest = {0: 0}
        for many in range(1, 5):
            for mask in list(fewest):
                for run in runs:
                    fewest.setdefault(mask | run, many)
        for mask in range(64):
            self.assertEqual(fewest[mask], len(starts_of(mask)), mask)

    def test_shown(self):
        for mask in some_masks():
            texts = [str(first) if first == last else f"{first}-{last}" for first, last in ranges_of(mask)]
            self.assertEqual(shown_ranges(mask), ",".join(texts))

    def test_lowest(self):
        for mask in some_masks():
            if mask != 0:
                self.assertEqual(lowest(mask), starts_of(mask)[0])
        for number in range(100):
            self.assertEqual(lowest(5 << number), number)

    def test_told_lists_are_the_askers_own(self):
        for asked in (ranges_of, starts_of):
            told = asked(0b1011)
            once_more = asked(0b1011)
            self.assertIs(type(told), list)
            self.assertIsNot(told, once_more)
            told.append("x")
            told[0] = None
            self.assertEqual(asked(0b1011), once_more)
        self.assertEqual([type(pair) for pair in ranges_of(0b1011)], [tuple, tuple])


if __name__ == "__main__":
    unittest.main()
