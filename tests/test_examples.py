"""The examples of the document, word for word."""

import unittest

from mixpace.dishes import Dish
from mixpace.errors import InvalidLine
from mixpace.reading import read_dish, write_dish


class ExamplesTest(unittest.TestCase):
    def test_dishes(self):
        pie = Dish("pie", [(1, "oven", 1), (0, "oven", 1)], first=3, second=1)
        tart = Dish("tart", [(0, "oven", 1)], first=1, second=1)
        self.assertEqual(
            repr([pie.needs, (pie << 1).needs, (pie | tart).needs, (pie | tart).worths]),
            "[((0, 'oven', 1), (1, 'oven', 1)), ((1, 'oven', 1), (2, 'oven', 1)), "
            "((0, 'oven', 2), (1, 'oven', 1)), (4, 2)]",
        )

    def test_reading(self):
        self.assertEqual(
            repr(write_dish(read_dish("soup 3 -1 stove@2x1 pot@0 stove@2"))), "'soup 3 -1 pot@0 stove@2x2'"
        )

    def test_invalid_line(self):
        with self.assertRaises(InvalidLine) as caught:
            read_dish("soup 3 -1 pot@0 stove@02")
        self.assertEqual(caught.exception.word, 4)


if __name__ == "__main__":
    unittest.main()
