import unittest

from mixpace.dishes import Dish
from mixpace.errors import InvalidDish, InvalidKitchen, UnknownTool
from mixpace.kitchens import Kitchen, ask_closed

PIE = Dish("pie", [(0, "oven", 1), (1, "oven", 1)], first=3, second=1)


class Burnt(Exception):
    pass


class ClosedTest(unittest.TestCase):
    def setUp(self):
        self.kitchen = Kitchen([("oven", 3), ("pot", 0), ("stove", 2)], [PIE])

    def tearDown(self):
        self.assertEqual(self.kitchen.tools, ("oven", "pot", "stove"))
        self.assertEqual(self.kitchen.numbers, (3, 0, 2))
        self.assertEqual((self.kitchen.menu, self.kitchen.horizon), ([PIE], 2))

    def check_unknown(self, tool, question, *told):
        with self.assertRaises(UnknownTool) as caught:
            question(*told)
        self.assertEqual(vars(caught.exception), {"tool": tool})

    def test_number_is_0_within_the_block(self):
        with self.kitchen.closed("oven") as held:
            self.assertIs(held, self.kitchen)
            self.assertEqual(held.numbers, (0, 0, 2))
            self.assertEqual([held.number_of("oven"), held.number_of("stove")], [0, 2])
            self.assertEqual(held.tools, ("oven", "pot", "stove"))
        self.assertEqual(self.kitchen.number_of("oven"), 3)

    def test_by_name_and_without_as(self):
        with self.kitchen.closed(tool="stove"):
            self.assertEqual(self.kitchen.numbers, (3, 0, 0))

    def test_a_tool_with_number_0(self):
        with self.kitchen.closed("pot"):
            self.assertEqual(self.kitchen.numbers, (3, 0, 2))

    def test_nested_blocks(self):
        with self.kitchen.closed("oven") as outer:
            with outer.closed("stove") as inner:
                self.assertIs(inner, self.kitchen)
                self.assertEqual(inner.numbers, (0, 0, 0))
            self.assertEqual(self.kitchen.numbers, (0, 0, 2))

    def test_the_same_tool_twice(self):
        with self.kitchen.closed("oven"):
            with self.kitchen.closed("oven"):
                self.assertEqual(self.kitchen.numbers, (0, 0, 2))
            self.assertEqual(self.kitchen.numbers, (0, 0, 2))

    def test_two_tools_in_one_statement(self):
        with self.kitchen.closed("stove"), self.kitchen.closed("oven"):
            self.assertEqual(self.kitchen.numbers, (0, 0, 0))

    def test_one_block_after_the_other(self):
        with self.kitchen.closed("oven"):
            pass
        self.assertEqual(self.kitchen.numbers, (3, 0, 2))
        with self.kitchen.closed("stove"):
            self.assertEqual(self.kitchen.numbers, (3, 0, 0))

    def test_an_error_leaves_the_block(self):
        error = Burnt()
        with self.assertRaises(Burnt) as caught:
            with self.kitchen.closed("oven"):
                raise error
        self.assertIs(caught.exception, error)
        self.assertEqual(self.kitchen.numbers, (3, 0, 2))

    def test_an_error_leaves_the_inner_of_two_blocks(self):
        with self.kitchen.closed("oven"):
            with self.assertRaises(Burnt):
                with self.kitchen.closed("stove"):
                    raise Burnt()
            self.assertEqual(self.kitchen.numbers, (0, 0, 2))

    def test_a_return_leaves_the_block(self):
        def numbers_within():
            with self.kitchen.closed("oven") as held:
                return held.numbers

        self.assertEqual(numbers_within(), (0, 0, 2))
        self.assertEqual(self.kitchen.numbers, (3, 0, 2))

    def test_a_call_that_is_never_entered(self):
        closing = self.kitchen.closed("oven")
        self.assertEqual(self.kitchen.numbers, (3, 0, 2))
        del closing
        self.assertEqual(self.kitchen.numbers, (3, 0, 2))

    def test_the_block_counts_and_not_the_call(self):
        oven = self.kitchen.closed("oven")
        with self.kitchen.closed("stove"):
            with oven:
                self.assertEqual(self.kitchen.numbers, (0, 0, 0))
            self.assertEqual(self.kitchen.numbers, (3, 0, 0))

    def test_unknown_tool_from_the_call_itself(self):
        for tool in ["pan", "", "Oven", "pie"]:
            with self.subTest(tool):
                self.check_unknown(tool, self.kitchen.closed, tool)
                self.assertEqual(self.kitchen.numbers, (3, 0, 2))

    def test_unknown_tool_within_a_block(self):
        with self.kitchen.closed("oven"):
            self.check_unknown("pan", self.kitchen.closed, "pan")
            self.assertEqual(self.kitchen.numbers, (0, 0, 2))

    def test_with_number_and_with_dish_take_the_present_numbers(self):
        with self.kitchen.closed("oven") as held:
            others = [held.with_number("stove", 5), held.with_dish(PIE), held.with_number("oven", 1)]
        self.assertEqual([other.numbers for other in others], [(0, 0, 5), (0, 0, 2), (1, 0, 2)])
        self.assertEqual([len(other.menu) for other in others], [1, 2, 1])

    def test_new_kitchens_errors_within_a_block(self):
        with self.kitchen.closed("oven") as held:
            self.check_unknown("pan", held.with_number, "pan", -1)
            with self.assertRaises(InvalidKitchen):
                held.with_number("oven", -1)

    def test_kitchens_are_closed_one_by_one(self):
        twin = Kitchen([("oven", 3), ("pot", 0), ("stove", 2)], [PIE])
        with self.kitchen.closed("oven"):
            self.assertEqual(twin.numbers, (3, 0, 2))
            with twin.closed("stove"):
                self.assertEqual((self.kitchen.numbers, twin.numbers), ((0, 0, 2), (3, 0, 0)))
        self.assertEqual(twin.numbers, (3, 0, 2))


class AskClosedTest(unittest.TestCase):
    def setUp(self):
        self.kitchen = Kitchen([("oven", 3), ("stove", 2)], [PIE])

    def tearDown(self):
        self.assertEqual(self.kitchen.numbers, (3, 2))

    def test_returns_what_the_question_returns(self):
        answer = object()
        self.assertIs(ask_closed(self.kitchen, "oven", lambda held: answer), answer)
        self.assertIsNone(ask_closed(self.kitchen, "oven", lambda held: None))
        self.assertEqual(ask_closed(self.kitchen, "oven", lambda held: held.numbers), (0, 2))

    def test_the_question_gets_the_kitchen_itself_once(self):
        asked = []
        ask_closed(question=asked.append, tool="stove", kitchen=self.kitchen)
        self.assertEqual(len(asked), 1)
        self.assertIs(asked[0], self.kitchen)

    def test_asked_within_the_question_and_within_a_block(self):
        self.assertEqual(
            ask_closed(self.kitchen, "oven", lambda held: ask_closed(held, "stove", lambda same: same.numbers)), (0, 0)
        )
        with self.kitchen.closed("stove"):
            self.assertEqual(ask_closed(self.kitchen, "oven", lambda held: held.numbers), (0, 0))
            self.assertEqual(self.kitchen.numbers, (3, 0))

    def test_unknown_tool_before_the_question_is_asked(self):
        asked = []
        with self.assertRaises(UnknownTool) as caught:
            ask_closed(self.kitchen, "pan", asked.append)
        self.assertEqual((vars(caught.exception), asked), ({"tool": "pan"}, []))

    def test_an_error_of_the_question_goes_on(self):
        for error in [Burnt(), KeyError("x"), UnknownTool("oven"), InvalidDish("why"), ZeroDivisionError()]:
            def question(held, error=error):
                self.assertEqual(held.numbers, (0, 2))
                raise error

            with self.subTest(error):
                with self.assertRaises(type(error)) as caught:
                    ask_closed(self.kitchen, "oven", question)
                self.assertIs(caught.exception, error)
                self.assertEqual(self.kitchen.numbers, (3, 2))


if __name__ == "__main__":
    unittest.main()
