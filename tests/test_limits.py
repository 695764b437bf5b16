"""Point [27]: what is as large as the bounds of use, or somewhat larger, raises no error."""

import unittest

from mixpace.dishes import Dish
from mixpace.errors import InvalidKitchen, InvalidLine
from mixpace.kitchens import Kitchen
from mixpace.reading import read_dish, write_dish

FIRST, SECOND = 10**12, -10**12


class LimitsTest(unittest.TestCase):
    def test_large_dishes(self):
        for many, amount in [(60, 100000), (61, 100001), (300, 10**9)]:
            needs = [(beat, "oven", amount) for beat in range(many)]
            dish = Dish("pie", needs[::-1], first=FIRST, second=SECOND)
            self.assertEqual((dish.needs, dish.length, dish.worths), (tuple(needs), many, (FIRST, SECOND)))
            self.assertEqual(~dish, dish)
            self.assertEqual((dish << 100).length, many + 100)
            self.assertEqual((dish | dish).needs[0], (0, "oven", 2 * amount))
            self.assertEqual(read_dish(write_dish(dish)), dish)

    def test_late_beats(self):
        for beat in (100, 101, 5000):
            dish = Dish("pie", [(beat, "oven", 1)])
            self.assertEqual(dish.length, beat + 1)
            self.assertEqual((~dish).needs, ((0, "oven", 1),))
            self.assertEqual((dish << -beat).needs, ((0, "oven", 1),))
            self.assertEqual(Kitchen([("oven", 1)], [dish]).horizon, beat + 1)

    def test_numbers_of_40_digits_and_more(self):
        for digits in (40, 41, 100):
            number = int("9" * digits)
            dish = read_dish(f"pie {number} -{number} oven@{number}x{number}")
            self.assertEqual((dish.worths, dish.needs), ((number, -number), ((number, "oven", number),)))
            self.assertEqual(write_dish(dish), f"pie {number} -{number} oven@{number}x{number}")
            with self.assertRaises(InvalidLine) as caught:
                read_dish(f"pie 0{number} 1 oven@0")
            self.assertEqual(caught.exception.word, 1)

    def test_large_kitchens(self):
        names = ["a", "b", "c", "d", "e", "f", "g", "h"]
        for tools, dishes, number in [(6, 8, 1000), (7, 9, 1001), (8, 30, 10**9)]:
            menu = [Dish("pie", [(0, "a", 1)])] * dishes
            kitchen = Kitchen([(name, number) for name in names[:tools]], menu)
            self.assertEqual(kitchen.numbers, (number,) * tools)
            self.assertEqual(kitchen.menu, menu)
            self.assertEqual(kitchen.with_number("f", 2 * number).number_of("f"), 2 * number)
            with self.assertRaises(InvalidKitchen):
                kitchen.with_number("a", -number)


if __name__ == "__main__":
    unittest.main()
