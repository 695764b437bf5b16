"""Point [27]: what is as large as the bounds of use, or somewhat larger, raises no error."""

import unittest

from mixpace.dishes import Dish
from mixpace.errors import InvalidKitchen, InvalidLine
from mixpace.kitchens import Kitchen
from mixpace.mixes import lowest
from mixpace.polygons import Region
from mixpace.reading import read_dish, write_dish
from mixpace.rows import first_lack, ring_lack, ring_mean, row_totals, stretch_totals
from mixpace.standings import after_beat, after_start, all_standings, empty_standing, moves

FIRST, SECOND = 10**12, -10**12


class LimitsTest(unittest.TestCase):
    def test_large_dishes(self):
        for many, amount in [(60, 100000), (61, 100001), (300, 10**9)]:
            needs = [(beat, "oven", amount) for beat in range(many)]
            dish = Dish("pie", needs[::-1], first=FIRST, second=SECOND)
            self.assertEqual((dish.needs, dish.length, dish.worths), (tuple(needs), many, (FIRST, SECOND)))
            self.assertEqual(~dish, dish)
            self.assertEqual((dish << 100).length, many + 100)
            self.assertEqual((dish | dish).needs[0], (0, "oven", 2 * amount))
            self.assertEqual(read_dish(write_dish(dish)), dish)

    def test_late_beats(self):
        for beat in (100, 101, 5000):
            dish = Dish("pie", [(beat, "oven", 1)])
            self.assertEqual(dish.length, beat + 1)
            self.assertEqual((~dish).needs, ((0, "oven", 1),))
            self.assertEqual((dish << -beat).needs, ((0, "oven", 1),))
            self.assertEqual(Kitchen([("oven", 1)], [dish]).horizon, beat + 1)

    def test_numbers_of_40_digits_and_more(self):
        for digits in (40, 41, 100):
            number = int("9" * digits)
            dish = read_dish(f"pie {number} -{number} oven@{number}x{number}")
            self.assertEqual((dish.worths, dish.needs), ((number, -number), ((number, "oven", number),)))
            self.assertEqual(write_dish(dish), f"pie {number} -{number} oven@{number}x{number}")
            with self.assertRaises(InvalidLine) as caught:
                read_dish(f"pie 0{number} 1 oven@0")
            self.assertEqual(caught.exception.word, 1)

    def test_large_kitchens(self):
        names = ["a", "b", "c", "d", "e", "f", "g", "h"]
        for tools, dishes, number in [(6, 8, 1000), (7, 9, 1001), (8, 30, 10**9)]:
            menu = [Dish("pie", [(0, "a", 1)])] * dishes
            kitchen = Kitchen([(name, number) for name in names[:tools]], menu)
            self.assertEqual(kitchen.numbers, (number,) * tools)
            self.assertEqual(kitchen.menu, menu)
            self.assertEqual(kitchen.with_number("f", 2 * number).number_of("f"), 2 * number)
            with self.assertRaises(InvalidKitchen):
                kitchen.with_number("a", -number)

    def test_large_standings(self):
        for length, amount, number in [(101, 1000, 1000), (102, 1001, 1001), (150, 100000, 10**9)]:
            dish = Dish("pie", [(length - 1, "f", amount)])
            kitchen = Kitchen([(name, number) for name in "abcdef"], [dish] * 8)
            standing = after_start(kitchen, empty_standing(kitchen), 7)
            self.assertEqual(standing, ((0,) * 6,) * (length - 1) + ((0,) * 5 + (amount,),))
            great = ((100001,) * 5 + (0,),) * length
            self.assertEqual(len(list(moves(kitchen, great))), 9)
            self.assertEqual(after_beat(great), great[1:] + ((0,) * 6,))

    def test_more_than_a_hundred_standings(self):
        kitchen = Kitchen([("a", 19), ("b", 19)], [Dish("x", [(0, "a", 1)]), Dish("y", [(0, "b", 1)])])
        self.assertEqual(len(all_standings(kitchen)), 400)

    def test_large_rows(self):
        kitchen = Kitchen([("a", 1000)], [Dish("x", [(0, "a", 1)], first=FIRST, second=SECOND)])
        for windows, number in [(3000, 1000), (3001, 1001), (5000, 10**6)]:
            row = [(1000,)] * (windows - 1) + [(number,)]
            lack = None if number == 1000 else (windows - 1, "a")
            many = 1000 * (windows - 1) + number
            self.assertEqual([first_lack(kitchen, row), ring_lack(kitchen, row)], [lack, lack])
            self.assertEqual(row_totals(kitchen, row), (many * FIRST, many * SECOND, windows))
            self.assertEqual(stretch_totals(kitchen, row, windows - 1, windows), (number * FIRST, number * SECOND, 1))
            self.assertEqual(ring_mean(kitchen, row), lowest((many * FIRST, many * SECOND, windows)))

    def test_large_mixes_and_regions(self):
        for great, many in [(10**60, 60), (10**61, 61), (10**90, 100)]:
            self.assertEqual(lowest((great, -great, great)), (1, -1, 1))
            mixes = [(k * great, k * k * great, k + 1) for k in range(many)]
            # The points lie on a curve that bends to the left.
            region = Region(mixes)
            self.assertEqual(region.corners, [lowest(mix) for mix in mixes])
            self.assertEqual(len(region.sides), many)
            self.assertEqual(region.weights(mixes[7]), [(7, 1)])
            self.assertIs((great, 0, great) in region, False)
            self.assertIs(Region(mixes[:9]) <= region, True)
            self.assertIsNotNone(region.bar((great, -great, 1)))


if __name__ == "__main__":
    unittest.main()
