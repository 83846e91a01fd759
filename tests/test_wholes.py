"""[0.2], [1.1]: whole numbers."""

import unittest

from fivefields.wholes import is_whole


class Wholes(unittest.TestCase):
    def test_whole_numbers_of_any_size(self):
        for number in (0, 1, -1, 63, 1440, 10 ** 60, -10 ** 60, 10 ** 5000, -10 ** 5000):
            self.assertIs(is_whole(number), True)

    def test_truths_are_none(self):
        self.assertIs(is_whole(True), False)
        self.assertIs(is_whole(False), False)

    def test_other_things_are_none(self):
        others = ("", "1", "one", [], [1], (), (1,), {}, {1: 1}, None, 1.0, 0.5, b"1", {1}, int, is_whole, object())
        for thing in others:
            self.assertIs(is_whole(thing), False, thing)


if __name__ == "__main__":
    unittest.main()
