"""[2.1], [2.2], [2.3], [2.5]: masks and the texts of fields."""

import random
import unittest

from fivefields.errors import FieldError, NoField
from fivefields.fields import mask_of, numbers_in, read_field, shown_field
from fivefields.ranges import shown_ranges

ALL = 2 ** 64 - 1
BOUNDS = ((0, 59), (0, 23), (1, 31), (1, 12), (0, 7), (0, 63), (5, 5), (0, 0), (63, 63))
NO_TEXTS = (None, True, False, 0, 5, 1.5, [], ["5"], ("5",), {}, b"5")


class Masks(unittest.TestCase):
    def test_some_masks(self):
        for numbers, mask in (([], 0), ([0], 1), ([1], 2), ([63], 2 ** 63), ([0, 1, 5], 35), (list(range(64)), ALL)):
            self.assertEqual(mask_of(numbers), mask)
            self.assertEqual(numbers_in(mask), numbers)

    def test_any_order_and_more_than_once(self):
        self.assertEqual(mask_of([5, 0, 1]), 35)
        self.assertEqual(mask_of([5, 5, 0, 1, 0, 5]), 35)
        self.assertEqual(numbers_in(mask_of([40, 3, 63, 3, 0])), [0, 3, 40, 63])
        self.assertEqual(mask_of(list(range(63, -1, -1)) * 3), ALL)

    def test_there_and_back(self):
        chance = random.Random(3)
        for turn in range(300):
            mask = chance.getrandbits(64)
            numbers = [number for number in range(64) if mask & 2 ** number]
            self.assertEqual(numbers_in(mask), numbers)
            chance.shuffle(numbers)
            self.assertEqual(mask_of(numbers), mask)

    def test_the_list_handed_in_stays(self):
        numbers = [5, 5, 0, 1]
        mask_of(numbers)
        self.assertEqual(numbers, [5, 5, 0, 1])

    def test_the_list_told_may_be_changed(self):
        told = numbers_in(35)
        self.assertIs(type(told), list)
        self.assertIsNot(told, numbers_in(35))
        told.append(9)
        told[0] = 7
        self.assertEqual(numbers_in(35), [0, 1, 5])
        self.assertIsNot(numbers_in(0), numbers_in(0))


class Reading(unittest.TestCase):
    def tells(self, text, low, high, numbers):
        self.assertEqual(numbers_in(read_field(text, low, high)), sorted(set(numbers)), (text, low, high))

    def refused(self, text, low, high, at):
        with self.assertRaises(FieldError, msg=text) as taken:
            read_field(text, low, high)
        self.assertIs(type(taken.exception), NoField)
        self.assertEqual(taken.exception.at, at, (text, low, high))

    def test_the_documents_own_examples(self):
        self.tells("*/20", 0, 59, [0, 20, 40])
        self.tells("50/4", 0, 59, [50, 54, 58])
        self.tells("7-9/5", 0, 59, [7])

    def test_each_form_within_each_bounds(self):
        for low, high in BOUNDS:
            self.tells("*", low, high, range(low, high + 1))
            for stride in (1, 2, 3, 7, 31, 98, 99):
                self.tells(f"*/{stride}", low, high, range(low, high + 1, stride))
            for number in range(low, high + 1):
                self.tells(str(number), low, high, [number])
                for stride in (1, 2, 5, 99):
                    self.tells(f"{number}/{stride}", low, high, range(number, high + 1, stride))
                for last in range(number, high + 1, 3):
                    self.tells(f"{number}-{last}", low, high, range(number, last + 1))
                    for stride in (1, 2, 5, 99):
                        self.tells(f"{number}-{last}/{stride}", low, high, range(number, last + 1, stride))

    def test_items_together(self):
        self.tells("1,3,5", 0, 59, [1, 3, 5])
        self.tells("5,3,1,3", 0, 59, [1, 3, 5])
        self.tells("*,5", 0, 7, range(8))
        self.tells("1-3,2-6,9/30,*/25", 0, 59, [1, 2, 3, 4, 5, 6, 9, 39, 0, 25, 50])
        self.tells("31,1", 1, 31, [1, 31])

    def test_a_range_of_one_number(self):
        self.tells("7-7", 0, 59, [7])
        self.tells("0-0", 0, 59, [0])
        self.tells("59-59/99", 0, 59, [59])
        self.tells("59/1", 0, 59, [59])

    def test_strides(self):
        for right in ("*/1", "*/99", "5/1", "5/99", "5-9/1", "5-9/99"):
            self.assertGreater(read_field(right, 0, 59), 0)
        for stride in ("0", "100", "101", "00", "01", "007", "-1", "+1", "", " 1", "1 ", "*", "a", "1-2", "9" * 290):
            for ahead in ("*", "5", "5-9"):
                self.refused(f"{ahead}/{stride}", 0, 59, 0)

    def test_noughts_ahead(self):
        self.tells("0", 0, 59, [0])
        self.tells("0-10", 0, 59, range(11))
        for text in ("00", "01", "007", "00-5", "0-05", "01-5", "05/2", "1-09/2", "-0"):
            self.refused(text, 0, 59, 0)

    def test_ends_turned_about(self):
        for text in ("9-7", "1-0", "59-0", "9-7/1", "30-29/99"):
            self.refused(text, 0, 59, 0)

    def test_numbers_beyond_the_bounds(self):
        for low, high in BOUNDS:
            for beyond in (low - 1, high + 1, 64, 100, 10 ** 30):
                if beyond >= 0:
                    for text in (f"{beyond}", f"{beyond}/2", f"{low}-{beyond}", f"{beyond}-{high}",
                                 f"{beyond}-{beyond}", f"{low}-{beyond}/2"):
                        self.refused(text, low, high, 0)
                        self.refused(f"{high},*,{text}", low, high, 2)

    def test_a_stride_may_lie_beyond_the_bounds(self):
        self.tells("5/99", 5, 5, [5])
        self.tells("*/60", 1, 12, [1])

    def test_wrong_items(self):
        for item in ("", " ", "a", "-", "/", "*-", "-*", "*-5", "5-*", "**", "*5", "5*", "1-", "-1", "-", "--", "1--2",
                     "1-2-3", "1/2/3", "*/2/3", "/5", "5/", "*/", "1-5/", "/", "//", "+1", "1.5", "1 ", " 1", "1 -2",
                     "1- 2", "* /2", "*/ 2", "\t1", "1\t", "1\n", "\n", "L", "5L", "5#2", "15W", "?", "0x1", "1_0",
                     "\u0661", "\u00b2", "mon", "1;2", "1..5"):
            self.refused(item, 0, 59, 0)
            self.refused(f"{item},1", 0, 59, 0)
            self.refused(f"1,{item}", 0, 59, 1)
            self.refused(f"1,2-3,{item},*/2", 0, 59, 2)
            self.refused(f"1,2-3,*/2,{item}", 0, 59, 3)

    def test_the_first_wrong_item(self):
        self.refused("1,x,2,y", 0, 59, 1)
        self.refused("1,2,3,60,61", 0, 59, 3)
        self.refused(",", 0, 59, 0)
        self.refused("1,", 0, 59, 1)
        self.refused(",1", 0, 59, 0)
        self.refused("1,,2", 0, 59, 1)

    def test_forty_items(self):
        forty = [str(number) for number in range(40)]
        self.tells(",".join(forty), 0, 59, range(40))
        self.refused(",".join(forty + ["40"]), 0, 59, 40)
        self.refused(",".join(forty * 2), 0, 59, 40)
        self.refused(",".join(forty) + ",", 0, 59, 40)
        self.tells(",".join(["7"] * 40), 0, 59, [7])
        self.refused(",".join(["7"] * 41), 0, 59, 40)

    def test_a_wrong_item_as_the_fortieth_and_behind(self):
        right = ["1"] * 39
        self.refused(",".join(right + ["x"]), 0, 59, 39)
        self.refused(",".join(right + ["x", "1"]), 0, 59, 39)
        self.refused(",".join(right + ["1", "x"]), 0, 59, 40)
        self.refused(",".join(right + ["1", "1", "x"]), 0, 59, 40)
        self.refused(",".join(["1", "x"] + ["1"] * 60), 0, 59, 1)
        self.refused("," * 299, 0, 59, 0)
        self.refused("1" + ",1" * 149, 0, 59, 40)

    def test_three_hundred_signs(self):
        items = ["10-59/1"] * 37
        text = ",".join(items + ["10", "9"])
        self.assertEqual(len(text), 300)
        self.tells(text, 0, 59, range(9, 60))
        text = ",".join(items + ["10", "19"])
        self.assertEqual(len(text), 301)
        self.refused(text, 0, 59, 0)
        self.refused("1," + "9" * 298, 0, 59, 1)
        self.refused("1," + "9" * 299, 0, 59, 0)
        self.refused("9" * 10000, 0, 59, 0)

    def test_several_at_once(self):
        self.refused("1," * 150 + "1", 0, 59, 0)
        self.refused("1,x," + "1," * 150, 0, 59, 0)
        self.refused("1," * 149 + "1", 0, 59, 40)
        self.refused("1,x," + "1," * 140 + "y", 0, 59, 1)

    def test_what_is_no_text(self):
        for thing in NO_TEXTS:
            self.refused(thing, 0, 59, 0)


class Showing(unittest.TestCase):
    def test_all_numbers(self):
        for low, high in BOUNDS:
            mask = mask_of(list(range(low, high + 1)))
            self.assertEqual(shown_field(mask, low, high), "*")
            self.assertEqual(read_field("*", low, high), mask)

    def test_all_but_one(self):
        self.assertEqual(shown_field(mask_of(list(range(1, 60))), 0, 59), "1-59")
        self.assertEqual(shown_field(mask_of(list(range(0, 59))), 0, 59), "0-58")
        self.assertEqual(shown_field(ALL - 2 ** 5, 0, 63), "0-4,6-63")
        self.assertEqual(shown_field(mask_of(list(range(0, 31))), 0, 31), "0-30")

    def test_some_numbers(self):
        self.assertEqual(shown_field(1, 0, 59), "0")
        self.assertEqual(shown_field(mask_of([0, 20, 40]), 0, 59), "0,20,40")
        self.assertEqual(shown_field(mask_of([1, 2, 3, 12]), 1, 12), "1-3,12")

    def test_read_again_it_tells_the_same_mask(self):
        chance = random.Random(8)
        for low, high in BOUNDS:
            every = mask_of(list(range(low, high + 1)))
            masks = [chance.getrandbits(64) & every for turn in range(100)]
            masks += [2 ** number for number in range(low, high + 1)]
            masks += [every - 2 ** number for number in range(low, high + 1)]
            masks += [mask_of(list(range(first, high + 1, 2))) for first in range(low, high + 1)]
            masks += [mask_of([number for number in range(low, high + 1) if number % 3])]
            for mask in masks:
                if mask != 0:
                    text = shown_field(mask, low, high)
                    self.assertEqual(read_field(text, low, high), mask)
                    self.assertEqual(text, "*" if mask == every else shown_ranges(mask))


if __name__ == "__main__":
    unittest.main()
