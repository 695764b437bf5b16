"""The examples of the document, word for word."""

import unittest

from mixpace.dishes import Dish
from mixpace.errors import Barred, InvalidLine, NotEnough
from mixpace.kitchens import Kitchen, ask_closed
from mixpace.papers import paper
from mixpace.polygons import Region
from mixpace.reading import read_dish, write_dish
from mixpace.regions import region_of
from mixpace.services import Service
from mixpace.standings import moves
from mixpace.wishes import least_number, shares


class ExamplesTest(unittest.TestCase):
    def test_dishes(self):
        pie = Dish("pie", [(1, "oven", 1), (0, "oven", 1)], first=3, second=1)
        tart = Dish("tart", [(0, "oven", 1)], first=1, second=1)
        self.assertEqual(
            repr([pie.needs, (pie << 1).needs, (pie | tart).needs, (pie | tart).worths]),
            "[((0, 'oven', 1), (1, 'oven', 1)), ((1, 'oven', 1), (2, 'oven', 1)), "
            "((0, 'oven', 2), (1, 'oven', 1)), (4, 2)]",
        )

    def test_reading(self):
        self.assertEqual(
            repr(write_dish(read_dish("soup 3 -1 stove@2x1 pot@0 stove@2"))), "'soup 3 -1 pot@0 stove@2x2'"
        )

    def test_invalid_line(self):
        with self.assertRaises(InvalidLine) as caught:
            read_dish("soup 3 -1 pot@0 stove@02")
        self.assertEqual(caught.exception.word, 4)

    def test_kitchens(self):
        kitchen = Kitchen([("oven", 1)], [Dish("tart", [(0, "oven", 1)], first=1, second=1)])
        self.assertEqual(
            repr([ask_closed(kitchen, "oven", region_of).corners, region_of(kitchen).corners]),
            "[[(0, 0, 1)], [(0, 0, 1), (1, 1, 1)]]",
        )

    def test_standings(self):
        pie = Dish("pie", [(0, "oven", 1), (1, "oven", 1)], first=3, second=1)
        tart = Dish("tart", [(0, "oven", 1)], first=1, second=1)
        kitchen = Kitchen([("oven", 1)], [pie, tart])
        self.assertEqual(
            repr(list(moves(kitchen, ((0,), (0,))))), "[(0, ((1,), (1,))), (1, ((1,), (0,))), (None, ((0,), (0,)))]"
        )

    def test_services(self):
        kitchen = Kitchen([("oven", 1)], [Dish("pie", [(0, "oven", 1), (1, "oven", 1)], first=3, second=1)])
        service = Service(kitchen)
        service.start(0)
        service.wait()
        with self.assertRaises(NotEnough) as caught:
            service.start(0)
        self.assertEqual((caught.exception.beat, caught.exception.tool), (1, "oven"))

    def test_polygons(self):
        region = Region([(1, 1, 1), (0, 0, 7), (6, 2, 4), (5, 3, 4)])
        self.assertEqual(
            repr([region.corners, region.sides, region.weights((5, 3, 4))]),
            "[[(0, 0, 1), (3, 1, 2), (1, 1, 1)], [(1, -3, 0), (1, 1, 2), (-1, 1, 0)], [(1, 1), (2, 1)]]",
        )

    def test_sides_of_a_segment(self):
        self.assertEqual(
            repr(Region([(2, 0, 1), (0, 0, 1)]).sides), "[(0, -1, 0), (1, 0, 2), (0, 1, 0), (-1, 0, 0)]"
        )

    def test_papers(self):
        pie = Dish("pie", [(0, "oven", 1), (1, "oven", 1)], first=3, second=1)
        tart = Dish("tart", [(0, "oven", 1)], first=1, second=1)
        slack, prices = paper(Kitchen([("oven", 1)], [pie, tart]), (1, 1, 2))
        self.assertEqual(
            repr([slack, prices[((0,), (0,))], prices[((1,), (0,))], prices[((1,), (1,))]]), "[2, 4, 2, 0]"
        )

    def test_regions(self):
        pie = Dish("pie", [(0, "oven", 1), (1, "oven", 1)], first=3, second=1)
        tart = Dish("tart", [(0, "oven", 1)], first=1, second=1)
        self.assertEqual(
            repr(region_of(Kitchen([("oven", 1)], [pie, tart])).corners), "[(0, 0, 1), (3, 1, 2), (1, 1, 1)]"
        )

    def test_shares(self):
        pie = Dish("pie", [(0, "oven", 1), (1, "oven", 1)], first=3, second=1)
        tart = Dish("tart", [(0, "oven", 1)], first=1, second=1)
        with self.assertRaises(Barred) as caught:
            shares(Kitchen([("oven", 1)], [pie, tart]), (2, 1, 1))
        self.assertEqual(caught.exception.side, (1, 1, 2))

    def test_least_number(self):
        pie = Dish("pie", [(0, "oven", 1), (1, "oven", 1)], first=3, second=1)
        tart = Dish("tart", [(0, "oven", 1)], first=1, second=1)
        self.assertEqual(repr(least_number(Kitchen([("oven", 1)], [pie, tart]), "oven", (2, 1, 1))), "2")


if __name__ == "__main__":
    unittest.main()
