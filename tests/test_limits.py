"""Point [27]: what is as large as the bounds of use, or somewhat larger, raises no error."""

import unittest

from mixpace.dishes import Dish
from mixpace.errors import InvalidKitchen, InvalidLine
from mixpace.kitchens import Kitchen
from mixpace.mixes import lowest
from mixpace.papers import paper, tight_row
from mixpace.polygons import Region
from mixpace.reading import read_dish, write_dish
from mixpace.regions import best_ring, corner_rings, region_of
from mixpace.rows import first_lack, ring_lack, ring_mean, row_totals, stretch_totals
from mixpace.services import Service, serve_closed
from mixpace.standings import after_beat, after_start, all_standings, empty_standing, moves
from mixpace.wishes import least_number, plan, region_while_closed, shares
from tests.samples import GREAT, large_kitchens

FIRST, SECOND = 10**12, -10**12


class LimitsTest(unittest.TestCase):
    def test_large_dishes(self):
        for many, amount in [(60, 100000), (61, 100001), (300, 10**9)]:
            needs = [(beat, "oven", amount) for beat in range(many)]
            dish = Dish("pie", needs[::-1], first=FIRST, second=SECOND)
            self.assertEqual((dish.needs, dish.length, dish.worths), (tuple(needs), many, (FIRST, SECOND)))
            self.assertEqual(~dish, dish)
            self.assertEqual((dish << 100).length, many + 100)
            self.assertEqual((dish | dish).needs[0], (0, "oven", 2 * amount))
            self.assertEqual(read_dish(write_dish(dish)), dish)

    def test_late_beats(self):
        for beat in (100, 101, 5000):
            dish = Dish("pie", [(beat, "oven", 1)])
            self.assertEqual(dish.length, beat + 1)
            self.assertEqual((~dish).needs, ((0, "oven", 1),))
            self.assertEqual((dish << -beat).needs, ((0, "oven", 1),))
            self.assertEqual(Kitchen([("oven", 1)], [dish]).horizon, beat + 1)

    def test_numbers_of_40_digits_and_more(self):
        for digits in (40, 41, 100):
            number = int("9" * digits)
            dish = read_dish(f"pie {number} -{number} oven@{number}x{number}")
            self.assertEqual((dish.worths, dish.needs), ((number, -number), ((number, "oven", number),)))
            self.assertEqual(write_dish(dish), f"pie {number} -{number} oven@{number}x{number}")
            with self.assertRaises(InvalidLine) as caught:
                read_dish(f"pie 0{number} 1 oven@0")
            self.assertEqual(caught.exception.word, 1)

    def test_large_kitchens(self):
        names = ["a", "b", "c", "d", "e", "f", "g", "h"]
        for tools, dishes, number in [(6, 8, 1000), (7, 9, 1001), (8, 30, 10**9)]:
            menu = [Dish("pie", [(0, "a", 1)])] * dishes
            kitchen = Kitchen([(name, number) for name in names[:tools]], menu)
            self.assertEqual(kitchen.numbers, (number,) * tools)
            self.assertEqual(kitchen.menu, menu)
            self.assertEqual(kitchen.with_number("f", 2 * number).number_of("f"), 2 * number)
            with self.assertRaises(InvalidKitchen):
                kitchen.with_number("a", -number)

    def test_large_standings(self):
        for length, amount, number in [(101, 1000, 1000), (102, 1001, 1001), (150, 100000, 10**9)]:
            dish = Dish("pie", [(length - 1, "f", amount)])
            kitchen = Kitchen([(name, number) for name in "abcdef"], [dish] * 8)
            standing = after_start(kitchen, empty_standing(kitchen), 7)
            self.assertEqual(standing, ((0,) * 6,) * (length - 1) + ((0,) * 5 + (amount,),))
            great = ((100001,) * 5 + (0,),) * length
            self.assertEqual(len(list(moves(kitchen, great))), 9)
            self.assertEqual(after_beat(great), great[1:] + ((0,) * 6,))

    def test_more_than_a_hundred_standings(self):
        kitchen = Kitchen([("a", 19), ("b", 19)], [Dish("x", [(0, "a", 1)]), Dish("y", [(0, "b", 1)])])
        self.assertEqual(len(all_standings(kitchen)), 400)

    def test_large_rows(self):
        kitchen = Kitchen([("a", 1000)], [Dish("x", [(0, "a", 1)], first=FIRST, second=SECOND)])
        for windows, number in [(3000, 1000), (3001, 1001), (5000, 10**6)]:
            row = [(1000,)] * (windows - 1) + [(number,)]
            lack = None if number == 1000 else (windows - 1, "a")
            many = 1000 * (windows - 1) + number
            self.assertEqual([first_lack(kitchen, row), ring_lack(kitchen, row)], [lack, lack])
            self.assertEqual(row_totals(kitchen, row), (many * FIRST, many * SECOND, windows))
            self.assertEqual(stretch_totals(kitchen, row, windows - 1, windows), (number * FIRST, number * SECOND, 1))
            self.assertEqual(ring_mean(kitchen, row), lowest((many * FIRST, many * SECOND, windows)))

    def test_large_mixes_and_regions(self):
        for great, many in [(10**60, 60), (10**61, 61), (10**90, 100)]:
            self.assertEqual(lowest((great, -great, great)), (1, -1, 1))
            mixes = [(k * great, k * k * great, k + 1) for k in range(many)]
            # The points lie on a curve that bends to the left.
            region = Region(mixes)
            self.assertEqual(region.corners, [lowest(mix) for mix in mixes])
            self.assertEqual(len(region.sides), many)
            self.assertEqual(region.weights(mixes[7]), [(7, 1)])
            self.assertIs((great, 0, great) in region, False)
            self.assertIs(Region(mixes[:9]) <= region, True)
            self.assertIsNotNone(region.bar((great, -great, 1)))

    def test_services_of_3000_windows(self):
        kitchen = Kitchen([("a", 1000)], [Dish("x", [(100, "a", 1)], first=FIRST, second=SECOND)])
        for windows in (3000, 3001):
            service = Service(kitchen)
            for _ in range(1000):
                service.start(0)
            service.wait(windows - 1)
            self.assertEqual(serve_closed(service, "a", [0] * 3000), [])
            service.start(0)
            self.assertEqual(service.row, [(1000,)] + [(0,)] * (windows - 2) + [(1,)])
            self.assertEqual(service.totals, (1001 * FIRST, 1001 * SECOND, windows))
            self.assertEqual(service.standing, ((0,),) * 100 + ((1,),))

    def test_kitchens_with_close_to_100_standings(self):
        for kitchen in large_kitchens()[:2]:
            self.assertEqual((len(kitchen.tools), len(kitchen.menu)), (6, 8))
            region = region_of(kitchen)
            self.assertEqual([ring_mean(kitchen, ring) for ring in corner_rings(kitchen)], region.corners)
            slack, prices = paper(kitchen, (GREAT, -GREAT, GREAT * GREAT))
            self.assertEqual((slack, len(prices)), (0, len(all_standings(kitchen))))
            self.assertEqual(tight_row(kitchen, (GREAT, -GREAT, GREAT * GREAT)), [])
            self.assertIsNone(ring_lack(kitchen, best_ring(kitchen, -GREAT, GREAT)))
            self.assertEqual(region_while_closed(kitchen, list(kitchen.tools)).corners, [(0, 0, 1)])
            for corner in region.corners:
                mix = tuple(number * GREAT for number in corner)
                self.assertEqual([times for _, times in shares(kitchen, mix)], [1])
            self.assertIsNone(least_number(kitchen, kitchen.tools[0], (GREAT, GREAT, 1), most=2))

    def test_plans_of_12_blocks(self):
        # The shares of the other large kitchens would take too many windows to be listed.
        for kitchen in large_kitchens()[:3]:
            first, second, beats = region_of(kitchen).corners[-1]
            mix = (first, second, 3 * beats)
            pairs = shares(kitchen, mix)
            for blocks in (12, 13):
                row = list(plan(kitchen, mix, blocks))
                played = sum(len(ring) * times for ring, times in pairs) * blocks * (blocks + 1) // 2
                self.assertEqual(len(row), played + blocks * len(pairs) * (kitchen.horizon - 1))
                self.assertIsNone(first_lack(kitchen, row))

    def test_papers_and_regions_of_more_than_a_hundred_standings(self):
        kitchen = Kitchen([("a", 19), ("b", 19)], [Dish("x", [(0, "a", 1)], first=1), Dish("y", [(0, "b", 1)], second=1)])
        self.assertEqual(region_of(kitchen).corners, [(0, 0, 1), (19, 0, 1), (19, 19, 1), (0, 19, 1)])
        self.assertEqual(paper(kitchen, (1, 1, 38))[0], 0)
        self.assertEqual(least_number(kitchen, "a", (25, 1, 1), most=30), 25)


if __name__ == "__main__":
    unittest.main()
