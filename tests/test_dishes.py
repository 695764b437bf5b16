import unittest

from mixpace.dishes import Dish
from mixpace.errors import InvalidDish

LETTERS_12 = "abcdefghijkl"
LETTERS_13 = "abcdefghijklm"
# The signs beside the ranges of letters and digits, and some that look like letters elsewhere.
WRONG_SIGNS = ["A", "Z", "0", "9", "_", "-", " ", "@", "`", "{", "[", ".", "~", "\n", "\t", "\u00e9", "\u00df"]


def wrong_names():
    names = ["", LETTERS_13, LETTERS_13 * 5]
    for sign in WRONG_SIGNS:
        names += [sign, sign + "oven", "ov" + sign + "en", "oven" + sign]
    return names


def facts(dish):
    return (dish.name, dish.first, dish.second, dish.needs, dish.length, dish.worths)


class DishTest(unittest.TestCase):
    def test_attributes_and_properties(self):
        dish = Dish("pie", [(1, "oven", 1), (0, "oven", 1)], first=3, second=-1)
        self.assertEqual(facts(dish), ("pie", 3, -1, ((0, "oven", 1), (1, "oven", 1)), 2, (3, -1)))

    def test_kinds(self):
        dish = Dish("pie", [(0, "oven", 1)], first=3, second=1)
        kinds = [type(value) for value in facts(dish)]
        self.assertEqual(kinds, [str, int, int, tuple, int, tuple])
        self.assertIs(type(dish.needs[0]), tuple)
        self.assertIsInstance(Dish.length, property)
        self.assertIsInstance(Dish.worths, property)

    def test_attributes_are_set_on_each_object(self):
        self.assertLessEqual({"name", "first", "second", "needs"}, set(vars(Dish("pie", [(0, "oven", 1)]))))

    def test_worths_not_passed_are_zero(self):
        needs = [(0, "oven", 1)]
        self.assertEqual(Dish("pie", needs).worths, (0, 0))
        self.assertEqual(Dish("pie", needs, first=2).worths, (2, 0))
        self.assertEqual(Dish("pie", needs, second=2).worths, (0, 2))

    def test_arguments_by_name(self):
        dish = Dish(second=2, first=1, needs=[(0, "oven", 1)], name="pie")
        self.assertEqual(facts(dish), ("pie", 1, 2, ((0, "oven", 1),), 1, (1, 2)))

    def test_worths_are_passed_by_name_only(self):
        with self.assertRaises(TypeError):
            Dish("pie", [(0, "oven", 1)], 1)

    def test_needs_with_equal_beat_and_tool_are_merged(self):
        dish = Dish("pie", [(2, "oven", 1), (0, "pot", 3), (2, "oven", 4), (2, "pot", 1), (2, "oven", 2)])
        self.assertEqual(dish.needs, ((0, "pot", 3), (2, "oven", 7), (2, "pot", 1)))

    def test_needs_are_in_order_of_beat_then_tool(self):
        dish = Dish("pie", [(10, "a", 1), (2, "b", 9), (2, "ab", 1), (2, "a", 5), (0, "z", 2)])
        self.assertEqual(dish.needs, ((0, "z", 2), (2, "a", 5), (2, "ab", 1), (2, "b", 9), (10, "a", 1)))

    def test_length_is_the_last_beat_plus_one(self):
        self.assertEqual(Dish("pie", [(0, "oven", 1)]).length, 1)
        self.assertEqual(Dish("pie", [(7, "oven", 1), (2, "pot", 1)]).length, 8)

    def test_the_list_of_needs_is_copied_and_left_alone(self):
        needs = [(1, "oven", 1), (0, "pot", 2), (1, "oven", 1)]
        dish = Dish("pie", needs)
        self.assertEqual(needs, [(1, "oven", 1), (0, "pot", 2), (1, "oven", 1)])
        needs.append((5, "oven", 1))
        needs[0] = (9, "oven", 9)
        self.assertEqual(dish.needs, ((0, "pot", 2), (1, "oven", 2)))
        needs.clear()
        self.assertEqual(dish.length, 2)

    def test_invalid_names(self):
        for name in wrong_names():
            with self.subTest(name), self.assertRaises(InvalidDish):
                Dish(name, [(0, "oven", 1)])

    def test_invalid_tools_of_any_need(self):
        for tool in wrong_names():
            for at in range(3):
                needs = [(0, "oven", 1), (1, "pot", 1)]
                needs.insert(at, (2, tool, 1))
                with self.subTest(tool=tool, at=at), self.assertRaises(InvalidDish):
                    Dish("pie", needs)

    def test_invalid_needs(self):
        good = (0, "oven", 5)
        for bad in [(-1, "oven", 1), (-5, "pot", 1), (0, "oven", 0), (0, "oven", -1), (3, "pot", 0)]:
            for needs in [[bad], [bad, good], [good, bad], [good, bad, good]]:
                with self.subTest(needs), self.assertRaises(InvalidDish):
                    Dish("pie", needs)

    def test_no_need_is_invalid(self):
        with self.assertRaises(InvalidDish):
            Dish("pie", [])

    def test_edges_that_are_valid(self):
        for name in ["a", "z", LETTERS_12, "zzzzzzzzzzzz"]:
            with self.subTest(name):
                dish = Dish(name, [(0, name, 1)])
                self.assertEqual((dish.name, dish.needs), (name, ((0, name, 1),)))

    def test_exactly_the_letters_from_a_to_z_are_letters(self):
        letters = []
        for sign in map(chr, range(256)):
            try:
                letters.append(Dish(sign, [(0, "oven", 1)]).name)
            except InvalidDish:
                pass
        self.assertEqual("".join(letters), "abcdefghijklmnopqrstuvwxyz")

    def test_an_invalid_dish_has_no_attributes(self):
        with self.assertRaises(InvalidDish) as caught:
            Dish("", [])
        self.assertEqual(vars(caught.exception), {})


class OperatorTest(unittest.TestCase):
    def setUp(self):
        self.pie = Dish("pie", [(2, "oven", 1), (3, "pot", 4), (3, "oven", 2)], first=3, second=-2)
        self.tart = Dish("tart", [(0, "oven", 1), (3, "oven", 5)], first=-1, second=1)
        self.before = [facts(self.pie), facts(self.tart)]

    def tearDown(self):
        self.assertEqual([facts(self.pie), facts(self.tart)], self.before)

    def test_operators_are_defined_in_the_class(self):
        for name in ["__lshift__", "__or__", "__invert__", "__eq__"]:
            self.assertIn(name, vars(Dish))

    def test_later(self):
        later = self.pie << 4
        self.assertEqual(
            facts(later), ("pie", 3, -2, ((6, "oven", 1), (7, "oven", 2), (7, "pot", 4)), 8, (3, -2))
        )

    def test_earlier(self):
        earlier = self.pie << -2
        self.assertEqual(
            facts(earlier), ("pie", 3, -2, ((0, "oven", 1), (1, "oven", 2), (1, "pot", 4)), 2, (3, -2))
        )

    def test_by_zero_is_a_new_equal_dish(self):
        same = self.pie << 0
        self.assertEqual(facts(same), facts(self.pie))
        self.assertIsNot(same, self.pie)

    def test_too_early(self):
        for beats in [-3, -4, -100]:
            with self.subTest(beats), self.assertRaises(InvalidDish):
                self.pie << beats
        with self.assertRaises(InvalidDish):
            self.tart << -1

    def test_combined_in_both_orders(self):
        both = ((0, "oven", 1), (2, "oven", 1), (3, "oven", 7), (3, "pot", 4))
        self.assertEqual(facts(self.pie | self.tart), ("pie", 2, -1, both, 4, (2, -1)))
        self.assertEqual(facts(self.tart | self.pie), ("tart", 2, -1, both, 4, (2, -1)))

    def test_combined_with_itself(self):
        self.assertEqual(
            facts(self.pie | self.pie),
            ("pie", 6, -4, ((2, "oven", 2), (3, "oven", 4), (3, "pot", 8)), 4, (6, -4)),
        )

    def test_reversed(self):
        self.assertEqual(
            facts(~self.tart), ("tart", -1, 1, ((0, "oven", 5), (3, "oven", 1)), 4, (-1, 1))
        )

    def test_reversed_when_the_first_need_is_not_at_beat_0(self):
        self.assertEqual(
            facts(~self.pie), ("pie", 3, -2, ((0, "oven", 2), (0, "pot", 4), (1, "oven", 1)), 2, (3, -2))
        )

    def test_reversed_dish_of_one_beat(self):
        self.assertEqual((~Dish("tea", [(5, "pot", 2)])).needs, ((0, "pot", 2),))
        self.assertEqual((~Dish("tea", [(0, "pot", 2)])).needs, ((0, "pot", 2),))

    def test_operators_together(self):
        joined = (self.tart << 1) | ~self.tart
        self.assertEqual(joined.needs, ((0, "oven", 5), (1, "oven", 1), (3, "oven", 1), (4, "oven", 5)))


class EqualTest(unittest.TestCase):
    def setUp(self):
        self.pie = Dish("pie", [(1, "oven", 2), (2, "pot", 1)], first=3, second=1)

    def test_equal_dishes_made_in_other_ways(self):
        others = [
            self.pie,
            Dish("pie", [(2, "pot", 1), (1, "oven", 1), (1, "oven", 1)], first=3, second=1),
            Dish("pie", [(0, "oven", 2), (1, "pot", 1)], first=3, second=1) << 1,
            Dish("pie", [(1, "oven", 2)], first=3) | Dish("tart", [(2, "pot", 1)], second=1),
            ~~(self.pie << 3) << 1,
        ]
        for other in others:
            with self.subTest(facts(other)):
                self.assertIs(self.pie == other, True)
                self.assertIs(self.pie != other, False)

    def test_one_difference(self):
        others = [
            Dish("pies", [(1, "oven", 2), (2, "pot", 1)], first=3, second=1),
            Dish("pie", [(1, "oven", 2), (2, "pot", 1)], first=4, second=1),
            Dish("pie", [(1, "oven", 2), (2, "pot", 1)], first=3, second=2),
            Dish("pie", [(0, "oven", 2), (2, "pot", 1)], first=3, second=1),
            Dish("pie", [(1, "ovens", 2), (2, "pot", 1)], first=3, second=1),
            Dish("pie", [(1, "oven", 1), (2, "pot", 1)], first=3, second=1),
            Dish("pie", [(1, "oven", 2), (2, "pot", 2)], first=3, second=1),
            Dish("pie", [(1, "oven", 2)], first=3, second=1),
            Dish("pie", [(1, "oven", 2), (2, "pot", 1), (3, "pot", 1)], first=3, second=1),
            Dish("pie", [(1, "oven", 2), (2, "pot", 1)], first=1, second=3),
        ]
        for other in others:
            with self.subTest(facts(other)):
                self.assertIs(self.pie == other, False)
                self.assertIs(other == self.pie, False)
                self.assertIs(self.pie != other, True)

    def test_things_that_are_no_dish(self):
        class LookAlike:
            def __init__(self, dish):
                self.name, self.first, self.second = dish.name, dish.first, dish.second
                self.needs, self.length, self.worths = dish.needs, dish.length, dish.worths

        class EqualToAll:
            def __eq__(self, other):
                return True

        things = [None, 0, 1, True, "pie", (), [], {}, self.pie.needs, facts(self.pie), [self.pie], Dish]
        for thing in things + [LookAlike(self.pie), EqualToAll()]:
            with self.subTest(thing):
                self.assertIs(self.pie == thing, False)
                self.assertIs(self.pie != thing, True)


if __name__ == "__main__":
    unittest.main()
