"""The examples of the document, word for word."""

import unittest

from mixpace.dishes import Dish
from mixpace.errors import InvalidLine
from mixpace.kitchens import Kitchen
from mixpace.polygons import Region
from mixpace.reading import read_dish, write_dish
from mixpace.standings import moves


class ExamplesTest(unittest.TestCase):
    def test_dishes(self):
        pie = Dish("pie", [(1, "oven", 1), (0, "oven", 1)], first=3, second=1)
        tart = Dish("tart", [(0, "oven", 1)], first=1, second=1)
        self.assertEqual(
            repr([pie.needs, (pie << 1).needs, (pie | tart).needs, (pie | tart).worths]),
            "[((0, 'oven', 1), (1, 'oven', 1)), ((1, 'oven', 1), (2, 'oven', 1)), "
            "((0, 'oven', 2), (1, 'oven', 1)), (4, 2)]",
        )

    def test_reading(self):
        self.assertEqual(
            repr(write_dish(read_dish("soup 3 -1 stove@2x1 pot@0 stove@2"))), "'soup 3 -1 pot@0 stove@2x2'"
        )

    def test_invalid_line(self):
        with self.assertRaises(InvalidLine) as caught:
            read_dish("soup 3 -1 pot@0 stove@02")
        self.assertEqual(caught.exception.word, 4)

    def test_standings(self):
        pie = Dish("pie", [(0, "oven", 1), (1, "oven", 1)], first=3, second=1)
        tart = Dish("tart", [(0, "oven", 1)], first=1, second=1)
        kitchen = Kitchen([("oven", 1)], [pie, tart])
        self.assertEqual(
            repr(list(moves(kitchen, ((0,), (0,))))), "[(0, ((1,), (1,))), (1, ((1,), (0,))), (None, ((0,), (0,)))]"
        )

    def test_polygons(self):
        region = Region([(1, 1, 1), (0, 0, 7), (6, 2, 4), (5, 3, 4)])
        self.assertEqual(
            repr([region.corners, region.sides, region.weights((5, 3, 4))]),
            "[[(0, 0, 1), (3, 1, 2), (1, 1, 1)], [(1, -3, 0), (1, 1, 2), (-1, 1, 0)], [(1, 1), (2, 1)]]",
        )

    def test_sides_of_a_segment(self):
        self.assertEqual(
            repr(Region([(2, 0, 1), (0, 0, 1)]).sides), "[(0, -1, 0), (1, 0, 2), (0, 1, 0), (-1, 0, 0)]"
        )


if __name__ == "__main__":
    unittest.main()
