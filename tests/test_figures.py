"""Numbers as texts: what [1.8] and [2.2] stand on."""

import unittest

from fivefields.figures import all_figures, is_written, written


class Figures(unittest.TestCase):
    def test_all_figures(self):
        for text in ("0", "9", "0123456789", "007"):
            self.assertIs(all_figures(text), True, text)
        for text in ("", "a", "1a", " 1", "1 ", "-1", "+1", "1_0", "1\n", "\u0663", "\u00b2"):
            self.assertIs(all_figures(text), False, text)

    def test_is_written(self):
        for text in ("0", "1", "10", "99", "9" * 300):
            self.assertIs(is_written(text), True, text)
        for text in ("", "00", "01", "-0", "-1", "+1", "1 ", "x"):
            self.assertIs(is_written(text), False, text)

    def test_written(self):
        for number in (0, 1, 9, 10, 10 ** 59, 10 ** 60 - 1, 10 ** 60, 10 ** 60 + 1, 10 ** 120, 123 * 10 ** 118 + 45):
            self.assertEqual(written(number), str(number))
        self.assertEqual(written(10 ** 9000 + 7), "1" + "0" * 8999 + "7")


if __name__ == "__main__":
    unittest.main()
