"""The interface of likedways/bounds.py."""

import unittest

from likedways import bounds

NUMBERS = {"HOUSES": 7, "LIKED": 6, "STANDS": 1000, "DROPS": 12, "MOST": 400, "DEEP": 6}


class TestBounds(unittest.TestCase):
    def test_numbers(self):
        for name, number in NUMBERS.items():
            with self.subTest(name):
                self.assertIs(type(getattr(bounds, name)), int)
                self.assertEqual(getattr(bounds, name), number)

    def test_dash_is_a_text(self):
        self.assertIs(type(bounds.DASH), str)
        self.assertEqual(bounds.DASH, "-")


if __name__ == "__main__":
    unittest.main()
