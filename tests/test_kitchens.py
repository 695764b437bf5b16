import unittest

from mixpace.dishes import Dish
from mixpace.errors import InvalidKitchen, UnknownTool
from mixpace.kitchens import Kitchen

PIE = Dish("pie", [(0, "oven", 1), (1, "oven", 1)], first=3, second=1)
SOUP = Dish("soup", [(0, "pot", 1), (4, "stove", 2)], first=1)


def facts(kitchen):
    return (kitchen.tools, kitchen.numbers, kitchen.menu, kitchen.horizon)


class KitchenTest(unittest.TestCase):
    def check_unknown(self, tool, question, *told, **more):
        with self.assertRaises(UnknownTool) as caught:
            question(*told, **more)
        self.assertEqual(vars(caught.exception), {"tool": tool})

    def test_properties(self):
        kitchen = Kitchen([("stove", 2), ("oven", 0), ("pot", 1)], [SOUP, PIE, SOUP])
        self.assertEqual(facts(kitchen), (("stove", "oven", "pot"), (2, 0, 1), [SOUP, PIE, SOUP], 5))
        self.assertEqual([type(fact) for fact in facts(kitchen)], [tuple, tuple, list, int])

    def test_properties_and_methods_are_defined_in_the_class(self):
        for name in ["tools", "numbers", "menu", "horizon"]:
            self.assertIsInstance(vars(Kitchen)[name], property)
        for name in ["number_of", "with_number", "with_dish", "closed"]:
            self.assertIn(name, vars(Kitchen))

    def test_without_tools_and_with_an_empty_menu(self):
        self.assertEqual(facts(Kitchen([], [])), ((), (), [], 1))
        self.assertEqual(facts(Kitchen([("oven", 3)], [])), (("oven",), (3,), [], 1))

    def test_tuples_of_one_tool(self):
        kitchen = Kitchen([("oven", 3)], [PIE])
        self.assertEqual((kitchen.tools, kitchen.numbers, kitchen.horizon), (("oven",), (3,), 2))

    def test_arguments_by_name(self):
        self.assertEqual(facts(Kitchen(menu=[PIE], tools=[("oven", 1)])), (("oven",), (1,), [PIE], 2))

    def test_horizon_is_the_greatest_length(self):
        tools = [("oven", 1)]
        self.assertEqual(Kitchen(tools, [Dish("a", [(0, "oven", 1)])]).horizon, 1)
        self.assertEqual(Kitchen(tools, [PIE << 5, PIE, PIE << 2]).horizon, 7)

    def test_number_of(self):
        kitchen = Kitchen([("stove", 2), ("oven", 0)], [])
        self.assertEqual([kitchen.number_of("oven"), kitchen.number_of(tool="stove")], [0, 2])

    def test_number_of_an_unknown_tool(self):
        kitchen = Kitchen([("oven", 1)], [PIE])
        for tool in ["pot", "pie", "ovens", "", "Oven", "oven "]:
            with self.subTest(tool):
                self.check_unknown(tool, kitchen.number_of, tool)

    def test_passed_lists_are_copied_and_left_alone(self):
        tools, menu = [("oven", 1), ("pot", 2)], [PIE]
        kitchen = Kitchen(tools, menu)
        self.assertEqual((tools, menu), ([("oven", 1), ("pot", 2)], [PIE]))
        tools[0] = ("oven", 9)
        tools.append(("stove", 1))
        menu.append(PIE << 5)
        self.assertEqual(facts(kitchen), (("oven", "pot"), (1, 2), [PIE], 2))

    def test_returned_menu_is_a_new_list(self):
        kitchen = Kitchen([("oven", 1)], [PIE])
        self.assertIsNot(kitchen.menu, kitchen.menu)
        kitchen.menu.append(SOUP)
        kitchen.menu.clear()
        self.assertEqual(facts(kitchen), (("oven",), (1,), [PIE], 2))

    def test_invalid_tools(self):
        good = ("pot", 1)
        for name in ["", "abcdefghijklm", "Oven", "ov en", "oven1", "ov-en", "o_ven", "oven\n"]:
            for tools in [[(name, 1)], [good, (name, 1)], [(name, 1), good]]:
                with self.subTest(tools), self.assertRaises(InvalidKitchen):
                    Kitchen(tools, [])
        for number in [-1, -2, -1000]:
            for tools in [[("oven", number)], [good, ("oven", number)], [("oven", number), good]]:
                with self.subTest(tools), self.assertRaises(InvalidKitchen):
                    Kitchen(tools, [])

    def test_names_that_occur_twice(self):
        for tools in [[("a", 1), ("a", 1)], [("a", 1), ("b", 1), ("a", 2)], [("b", 0), ("a", 0), ("a", 1)]]:
            with self.subTest(tools), self.assertRaises(InvalidKitchen):
                Kitchen(tools, [])

    def test_edges_that_are_valid(self):
        self.assertEqual(Kitchen([("abcdefghijkl", 0), ("z", 0)], []).numbers, (0, 0))

    def test_an_invalid_kitchen_has_no_attributes(self):
        with self.assertRaises(InvalidKitchen) as caught:
            Kitchen([("", 1)], [])
        self.assertEqual(vars(caught.exception), {})

    def test_invalid_tools_come_before_unknown_tools(self):
        for tools in [[("Pot", 1)], [("pot", 1), ("pot", 1)], [("pot", -1)]]:
            with self.subTest(tools), self.assertRaises(InvalidKitchen):
                Kitchen(tools, [PIE])

    def test_unknown_tool_is_that_of_the_first_such_need(self):
        mixed = Dish("mixed", [(1, "a", 1), (0, "z", 1), (0, "pot", 1), (0, "b", 1)])
        self.check_unknown("oven", Kitchen, [], [PIE])
        self.check_unknown("oven", Kitchen, [("pot", 1)], [PIE, SOUP])
        self.check_unknown("stove", Kitchen, [("pot", 1)], [SOUP, PIE])
        self.check_unknown("b", Kitchen, [("pot", 1)], [mixed])
        self.check_unknown("z", Kitchen, [("pot", 1), ("b", 1)], [mixed, PIE])
        self.check_unknown("a", Kitchen, [("pot", 1), ("b", 1), ("z", 1)], [mixed, PIE])

    def test_a_tool_with_number_zero_is_known(self):
        self.assertEqual(Kitchen([("oven", 0)], [PIE]).menu, [PIE])


class ChangedKitchenTest(unittest.TestCase):
    def setUp(self):
        self.kitchen = Kitchen([("stove", 2), ("oven", 1)], [PIE])
        self.before = facts(self.kitchen)

    def tearDown(self):
        self.assertEqual(facts(self.kitchen), self.before)

    def check_unknown(self, tool, question, *told):
        with self.assertRaises(UnknownTool) as caught:
            question(*told)
        self.assertEqual(vars(caught.exception), {"tool": tool})

    def test_with_number(self):
        other = self.kitchen.with_number("stove", 7)
        self.assertIs(type(other), Kitchen)
        self.assertEqual(facts(other), (("stove", "oven"), (7, 1), [PIE], 2))
        self.assertEqual(facts(other.with_number(number=0, tool="oven")), (("stove", "oven"), (7, 0), [PIE], 2))

    def test_with_the_number_it_has(self):
        other = self.kitchen.with_number("oven", 1)
        self.assertIsNot(other, self.kitchen)
        self.assertEqual(facts(other), self.before)

    def test_with_number_errors(self):
        self.check_unknown("pot", self.kitchen.with_number, "pot", 3)
        with self.assertRaises(InvalidKitchen):
            self.kitchen.with_number("oven", -1)
        with self.assertRaises(InvalidKitchen):
            self.kitchen.with_number("stove", -1000)

    def test_unknown_tool_comes_before_a_negative_number(self):
        self.check_unknown("pot", self.kitchen.with_number, "pot", -1)

    def test_with_dish(self):
        bread = Dish("bread", [(6, "oven", 1), (0, "stove", 1)])
        other = self.kitchen.with_dish(bread)
        self.assertIs(type(other), Kitchen)
        self.assertEqual(facts(other), (("stove", "oven"), (2, 1), [PIE, bread], 7))
        self.assertEqual(facts(other.with_dish(dish=PIE)), (("stove", "oven"), (2, 1), [PIE, bread, PIE], 7))

    def test_with_dish_of_an_unknown_tool(self):
        self.check_unknown("pot", self.kitchen.with_dish, SOUP)
        self.check_unknown("a", self.kitchen.with_dish, Dish("x", [(1, "b", 1), (0, "stove", 1), (1, "a", 1)]))
        self.check_unknown("b", self.kitchen.with_dish, Dish("x", [(0, "b", 1), (0, "stove", 1), (1, "a", 1)]))

    def test_the_new_kitchen_is_separate(self):
        others = [self.kitchen.with_number("oven", 1), self.kitchen.with_dish(PIE)]
        with self.kitchen.closed("oven"):
            self.assertEqual([other.numbers for other in others], [(2, 1), (2, 1)])
        with others[0].closed("oven"), others[1].closed("stove"):
            self.assertEqual([other.numbers for other in others], [(2, 0), (0, 1)])
            self.assertEqual(facts(self.kitchen), self.before)


if __name__ == "__main__":
    unittest.main()
