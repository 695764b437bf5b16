import inspect
import random
import unittest

from mixpace.dishes import Dish
from mixpace.errors import NoDish, NotEnough
from mixpace.kitchens import Kitchen, ask_closed
from mixpace.standings import after_beat, after_start, all_standings, empty_standing, moves

PIE = Dish("pie", [(0, "oven", 1), (1, "oven", 1)], first=3, second=1)
TART = Dish("tart", [(0, "oven", 1)], first=1, second=1)
# Its first need is not at beat 0, and its needs at beat 1 are not in the order of the kitchen's tools.
STEW = Dish("stew", [(1, "stove", 2), (1, "oven", 1), (3, "stove", 1)], first=-1)


def stew_kitchen(stoves=3, ovens=1):
    return Kitchen([("stove", stoves), ("pot", 2), ("oven", ovens)], [STEW, TART, STEW])


def random_kitchen(chance):
    tools = [(name, chance.randint(0, 2)) for name in ["z", "b", "m"][: chance.randint(1, 3)]]
    menu = []
    for _ in range(chance.randint(0, 3)):
        needs = []
        for _ in range(chance.randint(1, 3)):
            needs.append((chance.randint(0, 2), chance.choice(tools)[0], chance.randint(1, 2)))
        menu.append(Dish("dish", needs, first=chance.randint(-2, 3)))
    return Kitchen(tools, menu)


def standings_by_search(kitchen):
    """All reachable standings, found with sorted needs in use instead of tables."""
    limits = dict(zip(kitchen.tools, kitchen.numbers))
    found, waiting = {()}, [()]
    while waiting:
        needs = waiting.pop()
        after = [tuple((beat - 1, tool) for beat, tool in needs if beat > 0)]
        for dish in kitchen.menu:
            more = [(beat, tool) for beat, tool, amount in dish.needs for _ in range(amount)]
            after.append(tuple(sorted([*needs, *more])))
        for one in after:
            if one not in found and all(one.count(need) <= limits[need[1]] for need in one):
                found.add(one)
                waiting.append(one)
    return {
        tuple(tuple(needs.count((beat, tool)) for tool in kitchen.tools) for beat in range(kitchen.horizon))
        for needs in found
    }


class EmptyStandingTest(unittest.TestCase):
    def test_a_row_for_each_beat_of_the_horizon_and_a_number_for_each_tool(self):
        self.assertEqual(empty_standing(Kitchen([("oven", 5)], [TART])), ((0,),))
        self.assertEqual(empty_standing(Kitchen([("oven", 5)], [TART, PIE])), ((0,), (0,)))
        self.assertEqual(empty_standing(stew_kitchen()), ((0, 0, 0), (0, 0, 0), (0, 0, 0), (0, 0, 0)))
        self.assertEqual(empty_standing(Kitchen([("oven", 1), ("a", 0)], [PIE << 3])), ((0, 0),) * 5)

    def test_without_tools_and_with_an_empty_menu(self):
        self.assertEqual(empty_standing(Kitchen([], [])), ((),))
        self.assertEqual(empty_standing(Kitchen([("oven", 3)], [])), ((0,),))
        self.assertEqual(empty_standing(Kitchen([("oven", 3), ("pot", 1)], [])), ((0, 0),))

    def test_by_name_and_with_a_closed_tool(self):
        kitchen = stew_kitchen()
        with kitchen.closed("stove"):
            self.assertEqual(empty_standing(kitchen=kitchen), ((0, 0, 0),) * 4)


class AfterBeatTest(unittest.TestCase):
    def test_the_first_row_goes_and_zeros_come(self):
        standing = ((1, 2), (3, 4), (5, 6))
        self.assertEqual(after_beat(standing), ((3, 4), (5, 6), (0, 0)))
        self.assertEqual(after_beat(after_beat(standing)), ((5, 6), (0, 0), (0, 0)))
        self.assertEqual(standing, ((1, 2), (3, 4), (5, 6)))

    def test_one_row(self):
        self.assertEqual(after_beat(((100000, 7, 1),)), ((0, 0, 0),))
        self.assertEqual(after_beat(((3,),)), ((0,),))
        self.assertEqual(after_beat(standing=((0,),)), ((0,),))

    def test_without_tools(self):
        self.assertEqual(after_beat(((),)), ((),))

    def test_all_rows_are_gone_after_as_many_beats_as_rows(self):
        standing = tuple((row + 1,) for row in range(101))
        for beat in range(101):
            self.assertEqual(standing[0], (beat + 1,))
            standing = after_beat(standing)
        self.assertEqual(standing, ((0,),) * 101)


class AfterStartTest(unittest.TestCase):
    def check_not_enough(self, beat, tool, kitchen, standing, index):
        with self.assertRaises(NotEnough) as caught:
            after_start(kitchen, standing, index)
        self.assertEqual((caught.exception.beat, caught.exception.tool), (beat, tool))

    def check_no_dish(self, kitchen, standing, index):
        with self.assertRaises(NoDish) as caught:
            after_start(kitchen, standing, index)
        self.assertEqual(caught.exception.index, index)

    def test_the_needs_are_added(self):
        kitchen = stew_kitchen()
        start = empty_standing(kitchen)
        self.assertEqual(after_start(kitchen, start, 0), ((0, 0, 0), (2, 0, 1), (0, 0, 0), (1, 0, 0)))
        self.assertEqual(after_start(kitchen, start, 1), ((0, 0, 1), (0, 0, 0), (0, 0, 0), (0, 0, 0)))
        standing = ((1, 2, 0), (1, 0, 0), (3, 2, 1), (2, 1, 1))
        self.assertEqual(after_start(kitchen, standing, 2), ((1, 2, 0), (3, 0, 1), (3, 2, 1), (3, 1, 1)))
        self.assertEqual(standing, ((1, 2, 0), (1, 0, 0), (3, 2, 1), (2, 1, 1)))
        self.assertEqual(start, ((0, 0, 0),) * 4)

    def test_by_name(self):
        kitchen = Kitchen([("oven", 1)], [TART])
        self.assertEqual(after_start(index=0, standing=((0,),), kitchen=kitchen), ((1,),))

    def test_the_very_number_fits_and_one_more_does_not(self):
        kitchen = stew_kitchen(stoves=5, ovens=7)
        for stoves in range(7):
            standing = ((0, 0, 0), (stoves, 0, 0), (0, 0, 0), (0, 0, 0))
            with self.subTest(stoves):
                if stoves + 2 <= 5:
                    after = after_start(kitchen, standing, 0)
                    self.assertEqual(after, ((0, 0, 0), (stoves + 2, 0, 1), (0, 0, 0), (1, 0, 0)))
                else:
                    self.check_not_enough(1, "stove", kitchen, standing, 0)

    def test_equal_dishes_in_one_beat(self):
        kitchen = Kitchen([("oven", 3)], [PIE])
        standing = empty_standing(kitchen)
        for many in range(1, 4):
            standing = after_start(kitchen, standing, 0)
            self.assertEqual(standing, ((many,), (many,)))
        self.check_not_enough(0, "oven", kitchen, standing, 0)

    def test_a_start_after_a_beat(self):
        kitchen = Kitchen([("oven", 1)], [PIE])
        standing = after_beat(after_start(kitchen, empty_standing(kitchen), 0))
        self.check_not_enough(0, "oven", kitchen, standing, 0)
        self.assertEqual(after_start(kitchen, after_beat(standing), 0), ((1,), (1,)))

    def test_the_first_need_in_the_order_of_the_dish(self):
        kitchen = stew_kitchen()
        # Beats come first; within a beat it is the order of the names, not that of the kitchen.
        self.check_not_enough(1, "oven", kitchen, ((3, 2, 1), (3, 2, 1), (3, 2, 1), (3, 2, 1)), 0)
        self.check_not_enough(1, "stove", kitchen, ((3, 2, 1), (2, 2, 0), (3, 2, 1), (3, 2, 1)), 2)
        self.check_not_enough(3, "stove", kitchen, ((3, 2, 1), (1, 2, 0), (3, 2, 1), (3, 2, 1)), 0)
        self.check_not_enough(0, "oven", kitchen, ((3, 2, 1), (3, 2, 1), (3, 2, 1), (3, 2, 1)), 1)
        self.assertEqual(
            after_start(kitchen, ((3, 2, 1), (1, 2, 0), (3, 2, 1), (2, 2, 1)), 0),
            ((3, 2, 1), (3, 2, 1), (3, 2, 1), (3, 2, 1)),
        )

    def test_a_later_need_that_lacks_is_found(self):
        kitchen = Kitchen([("a", 9), ("b", 1)], [Dish("x", [(0, "a", 1), (0, "b", 1), (4, "a", 1), (6, "b", 2)])])
        self.check_not_enough(6, "b", kitchen, empty_standing(kitchen), 0)

    def test_merged_needs_count_together(self):
        kitchen = Kitchen([("oven", 3)], [Dish("x", [(0, "oven", 2), (0, "oven", 2)])])
        self.check_not_enough(0, "oven", kitchen, ((0,),), 0)

    def test_standings_that_are_not_reachable(self):
        kitchen = stew_kitchen()
        # Only the numbers at the dish's own needs are asked, be the others as great as they may.
        standing = ((100000, 7, 9), (1, 100000, 0), (50, 60, 70), (2, 100000, 100000))
        self.assertEqual(
            after_start(kitchen, standing, 0),
            ((100000, 7, 9), (3, 100000, 1), (50, 60, 70), (3, 100000, 100000)),
        )
        self.check_not_enough(0, "oven", kitchen, standing, 1)
        self.check_not_enough(1, "oven", kitchen, ((0, 0, 0), (0, 0, 100000), (0, 0, 0), (0, 0, 0)), 0)
        # No beat has passed, but there is something in use in the last row only.
        single = Kitchen([("oven", 2)], [PIE, TART])
        self.assertEqual(after_start(single, ((0,), (2,)), 1), ((1,), (2,)))
        self.check_not_enough(1, "oven", single, ((0,), (2,)), 0)

    def test_no_dish(self):
        kitchen = stew_kitchen()
        for index in [-1, -2, -3, -4, -1000, 3, 4, 1000]:
            with self.subTest(index):
                self.check_no_dish(kitchen, empty_standing(kitchen), index)
        for index in [-1, 0, 1]:
            self.check_no_dish(Kitchen([], []), ((),), index)
            self.check_no_dish(Kitchen([("oven", 1)], []), ((0,),), index)

    def test_no_dish_comes_before_not_enough(self):
        kitchen = stew_kitchen(stoves=0, ovens=0)
        for index in [-3, -1, 3]:
            with self.subTest(index):
                self.check_no_dish(kitchen, ((9, 9, 9),) * 4, index)

    def test_a_closed_tool(self):
        kitchen = stew_kitchen()
        start = empty_standing(kitchen)
        with kitchen.closed("stove"):
            self.check_not_enough(1, "stove", kitchen, start, 0)
            self.assertEqual(after_start(kitchen, start, 1)[0], (0, 0, 1))
            with kitchen.closed("oven"):
                self.check_not_enough(1, "oven", kitchen, start, 0)
                self.check_not_enough(0, "oven", kitchen, start, 1)
        with kitchen.closed("pot"):
            self.assertEqual(after_start(kitchen, start, 0)[1], (2, 0, 1))
        self.assertEqual(after_start(kitchen, start, 0)[1], (2, 0, 1))

    def test_a_number_of_0(self):
        self.check_not_enough(0, "oven", Kitchen([("oven", 0)], [TART]), ((0,),), 0)

    def test_other_numbers_of_a_new_kitchen(self):
        kitchen = Kitchen([("oven", 1)], [TART])
        self.assertEqual(after_start(kitchen.with_number("oven", 2), ((1,),), 0), ((2,),))
        self.check_not_enough(0, "oven", kitchen, ((1,),), 0)


class MovesTest(unittest.TestCase):
    def test_starts_in_the_order_of_the_menu_then_a_beat(self):
        kitchen = stew_kitchen()
        standing = ((0, 1, 0), (1, 0, 0), (0, 0, 0), (2, 0, 0))
        stew = ((0, 1, 0), (3, 0, 1), (0, 0, 0), (3, 0, 0))
        tart = ((0, 1, 1), (1, 0, 0), (0, 0, 0), (2, 0, 0))
        beat = ((1, 0, 0), (0, 0, 0), (2, 0, 0), (0, 0, 0))
        self.assertEqual(list(moves(kitchen, standing)), [(0, stew), (1, tart), (2, stew), (None, beat)])
        self.assertEqual(list(moves(standing=standing, kitchen=kitchen))[3], (None, beat))

    def test_dishes_that_do_not_fit_are_left_out(self):
        kitchen = stew_kitchen()
        standing = ((0, 0, 0), (2, 0, 0), (0, 0, 0), (0, 0, 0))
        self.assertEqual([index for index, _ in moves(kitchen, standing)], [1, None])
        standing = ((0, 0, 1), (0, 0, 0), (0, 0, 0), (0, 0, 0))
        self.assertEqual([index for index, _ in moves(kitchen, standing)], [0, 2, None])
        self.assertEqual(list(moves(kitchen, ((9, 9, 9),) * 4)), [(None, ((9, 9, 9),) * 3 + ((0, 0, 0),))])

    def test_without_tools_and_with_an_empty_menu(self):
        self.assertEqual(list(moves(Kitchen([], []), ((),))), [(None, ((),))])
        self.assertEqual(list(moves(Kitchen([("oven", 2)], []), ((2,),))), [(None, ((0,),))])

    def test_the_present_numbers(self):
        kitchen = stew_kitchen()
        start = empty_standing(kitchen)

        def indexes(held):
            return [index for index, _ in moves(held, start)]

        self.assertEqual(ask_closed(kitchen, "stove", indexes), [1, None])
        self.assertEqual(ask_closed(kitchen, "oven", indexes), [None])
        self.assertEqual(ask_closed(kitchen, "pot", indexes), [0, 1, 2, None])
        self.assertEqual(indexes(kitchen), [0, 1, 2, None])
        self.assertEqual(indexes(kitchen.with_number("stove", 1)), [1, None])

    def test_a_generator_that_is_left_early(self):
        kitchen = stew_kitchen()
        start = empty_standing(kitchen)
        steps = moves(kitchen, start)
        self.assertTrue(inspect.isgenerator(steps))
        first = next(steps)
        self.assertEqual(first, (0, ((0, 0, 0), (2, 0, 1), (0, 0, 0), (1, 0, 0))))
        steps.close()
        self.assertEqual((kitchen.numbers, start), ((3, 2, 1), ((0, 0, 0),) * 4))
        self.assertEqual(next(moves(kitchen, start)), first)
        self.assertEqual([index for index, _ in moves(kitchen, start)], [0, 1, 2, None])

    def test_two_generators_at_once(self):
        kitchen = stew_kitchen()
        pairs = zip(moves(kitchen, empty_standing(kitchen)), moves(kitchen, empty_standing(kitchen)))
        self.assertEqual([one == other for one, other in pairs], [True] * 4)

    def test_each_move_is_that_of_the_other_functions(self):
        chance = random.Random(1)
        for _ in range(60):
            kitchen = random_kitchen(chance)
            standing = tuple(tuple(chance.randint(0, 2) for _ in kitchen.tools) for _ in range(kitchen.horizon))
            expected = []
            for index in range(len(kitchen.menu)):
                try:
                    expected.append((index, after_start(kitchen, standing, index)))
                except NotEnough:
                    pass
            expected.append((None, after_beat(standing)))
            self.assertEqual(list(moves(kitchen, standing)), expected)


class AllStandingsTest(unittest.TestCase):
    def check(self, kitchen, expected):
        standings = all_standings(kitchen)
        self.assertIs(type(standings), list)
        self.assertEqual(len(standings), len(expected))
        self.assertEqual(set(standings), set(expected))

    def test_one_oven(self):
        kitchen = Kitchen([("oven", 1)], [PIE, TART])
        self.check(kitchen, [((0,), (0,)), ((1,), (0,)), ((1,), (1,))])
        self.check(Kitchen([("oven", 1)], [TART]), [((0,),), ((1,),)])

    def test_dishes_that_begin_later(self):
        # The standings with something in row 0 come only after beats.
        kitchen = Kitchen([("oven", 1)], [TART << 1])
        self.check(kitchen, [((0,), (0,)), ((0,), (1,)), ((1,), (0,)), ((1,), (1,))])

    def test_nothing_can_be_started(self):
        self.check(Kitchen([], []), [((),)])
        self.check(Kitchen([("oven", 3), ("pot", 0)], []), [((0, 0),)])
        self.check(Kitchen([("oven", 0)], [PIE, TART]), [((0,), (0,))])
        self.check(Kitchen([("oven", 1)], [Dish("x", [(0, "oven", 2)])]), [((0,),)])

    def test_not_everything_that_the_numbers_allow_is_reachable(self):
        self.check(Kitchen([("oven", 3)], [Dish("x", [(0, "oven", 2)])]), [((0,),), ((2,),)])
        self.check(Kitchen([("a", 1), ("b", 9)], [Dish("x", [(0, "a", 1), (0, "b", 4)])]), [((0, 0),), ((1, 4),)])

    def test_closed_tools(self):
        kitchen = Kitchen([("pot", 1), ("oven", 1)], [TART, Dish("tea", [(0, "pot", 1)])])
        everything = [((0, 0),), ((1, 0),), ((0, 1),), ((1, 1),)]
        self.check(kitchen, everything)
        with kitchen.closed("oven"):
            self.check(kitchen, [((0, 0),), ((1, 0),)])
            with kitchen.closed(tool="pot"):
                self.check(kitchen, [((0, 0),)])
        with kitchen.closed("pot"):
            self.check(kitchen, [((0, 0),), ((0, 1),)])
        self.check(kitchen, everything)

    def test_about_a_hundred_standings(self):
        kitchen = Kitchen([("oven", 99)], [TART])
        self.check(kitchen, [((many,),) for many in range(100)])
        kitchen = Kitchen([("oven", 1)], [Dish("long", [(beat, "oven", 1) for beat in range(100)])])
        self.check(kitchen, [((1,),) * many + ((0,),) * (100 - many) for many in range(101)])

    def test_against_a_search(self):
        chance = random.Random(2)
        for _ in range(150):
            kitchen = random_kitchen(chance)
            with self.subTest(tools=kitchen.tools, numbers=kitchen.numbers, menu=[dish.needs for dish in kitchen.menu]):
                self.check(kitchen, standings_by_search(kitchen))

    def test_the_same_question_gives_the_same_answer(self):
        kitchen = stew_kitchen()
        standings = all_standings(kitchen)
        with kitchen.closed("oven"):
            self.assertEqual(all_standings(kitchen), [empty_standing(kitchen)])
        self.assertEqual(all_standings(kitchen), standings)

    def test_the_list_is_a_new_one(self):
        kitchen = Kitchen([("oven", 1)], [PIE])
        standings = all_standings(kitchen=kitchen)
        standings.clear()
        self.check(kitchen, [((0,), (0,)), ((1,), (0,)), ((1,), (1,))])
        self.assertEqual(kitchen.numbers, (1,))


if __name__ == "__main__":
    unittest.main()
