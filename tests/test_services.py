import random
import unittest

from mixpace.dishes import Dish
from mixpace.errors import NoDish, NotEnough, UnknownTool
from mixpace.kitchens import Kitchen, ask_closed
from mixpace.rows import first_lack, row_totals
from mixpace.services import Service, serve_closed
from mixpace.standings import after_beat, after_start, empty_standing
from tests.samples import PIE, STEW, TART, check_windows, error_of, named_kitchens, oven, random_kitchens, range_kitchen


def state_of(service):
    return (service.standing, service.row, service.totals)


class ServiceTest(unittest.TestCase):
    def check_state(self, service, standing, row, totals):
        self.assertEqual(state_of(service), (standing, row, totals))
        check_windows(self, service.row)
        self.assertEqual([type(service.standing), type(service.totals)], [tuple, tuple])
        self.assertEqual({type(beat) for beat in service.standing}, {tuple})
        self.assertEqual({type(number) for number in service.totals}, {int})

    def test_it_begins_with_the_empty_standing_and_one_window(self):
        self.check_state(Service(oven()), ((0,), (0,)), [(0, 0)], (0, 0, 1))
        self.check_state(Service(kitchen=range_kitchen()), ((0, 0, 0),) * 4, [(0, 0)], (0, 0, 1))
        self.check_state(Service(Kitchen([], [])), ((),), [()], (0, 0, 1))
        self.check_state(Service(Kitchen([("oven", 2)], [])), ((0,),), [()], (0, 0, 1))
        self.check_state(Service(oven(0, PIE)), ((0,), (0,)), [(0,)], (0, 0, 1))

    def test_starts_and_waits(self):
        service = Service(range_kitchen())
        service.start(0)
        self.check_state(service, ((0, 0, 0), (2, 0, 1), (0, 0, 0), (1, 0, 0)), [(1, 0)], (-1, 5, 1))
        service.start(1)
        self.check_state(service, ((0, 0, 1), (2, 0, 1), (0, 0, 0), (1, 0, 0)), [(1, 1)], (0, 6, 1))
        service.wait()
        self.check_state(service, ((2, 0, 1), (0, 0, 0), (1, 0, 0), (0, 0, 0)), [(1, 1), (0, 0)], (0, 6, 2))
        service.start(0)
        self.check_state(service, ((2, 0, 1), (2, 0, 1), (1, 0, 0), (1, 0, 0)), [(1, 1), (1, 0)], (-1, 11, 2))
        service.wait(2)
        self.check_state(
            service, ((1, 0, 0), (1, 0, 0), (0, 0, 0), (0, 0, 0)), [(1, 1), (1, 0), (0, 0), (0, 0)], (-1, 11, 4)
        )

    def test_several_starts_of_one_dish_in_one_beat(self):
        service = Service(oven(3, TART))
        for many in range(1, 4):
            service.start(0)
            self.check_state(service, ((many,),), [(many,)], (many, many, 1))
        service.wait()
        service.start(0)
        self.check_state(service, ((1,),), [(3,), (1,)], (4, 4, 2))

    def test_a_dish_twice_in_the_menu_is_counted_by_index(self):
        service = Service(oven(2, TART, TART))
        service.start(1)
        service.start(0)
        self.check_state(service, ((2,),), [(1, 1)], (2, 2, 1))
        service = Service(oven(2, TART, TART))
        service.start(1)
        service.start(1)
        self.check_state(service, ((2,),), [(0, 2)], (2, 2, 1))

    def test_wait(self):
        service = Service(oven())
        service.start(0)
        service.wait(0)
        self.check_state(service, ((1,), (1,)), [(1, 0)], (3, 1, 1))
        service.wait(beats=0)
        self.check_state(service, ((1,), (1,)), [(1, 0)], (3, 1, 1))
        service.wait(1)
        self.check_state(service, ((1,), (0,)), [(1, 0), (0, 0)], (3, 1, 2))
        service.wait(beats=1)
        self.check_state(service, ((0,), (0,)), [(1, 0)] + [(0, 0)] * 2, (3, 1, 3))
        service.wait(7)
        self.check_state(service, ((0,), (0,)), [(1, 0)] + [(0, 0)] * 9, (3, 1, 10))
        service.start(1)
        self.check_state(service, ((1,), (0,)), [(1, 0)] + [(0, 0)] * 8 + [(0, 1)], (4, 2, 10))

    def test_start_and_wait_return_none(self):
        service = Service(oven(2))
        returned = [service.start(0), service.start(index=1), service.wait(), service.wait(3), service.wait(beats=0)]
        self.assertEqual(returned, [None] * 5)

    def test_waits_without_tools_and_dishes(self):
        service = Service(Kitchen([], []))
        service.wait(3)
        self.check_state(service, ((),), [(), (), (), ()], (0, 0, 4))

    def test_no_dish(self):
        for kitchen in named_kitchens():
            many = len(kitchen.menu)
            service = Service(kitchen)
            service.wait()
            for index in (many, many + 1, -1, -many, -many - 1, 10**6, -(10**6)):
                if not 0 <= index < many:
                    before = state_of(service)
                    self.assertEqual(error_of(self, NoDish, lambda: service.start(index)), {"index": index})
                    self.assertEqual(state_of(service), before)

    def test_no_dish_comes_before_not_enough(self):
        kitchen = oven()
        service = Service(kitchen)
        service.start(0)
        for index in (2, -1):
            self.assertEqual(error_of(self, NoDish, lambda: service.start(index)), {"index": index})
        with kitchen.closed("oven"):
            self.assertEqual(error_of(self, NoDish, lambda: service.start(-2)), {"index": -2})

    def test_not_enough_counts_beats_from_the_beginning_and_changes_nothing(self):
        for beats in (0, 1, 2, 7):
            service = Service(range_kitchen())
            service.wait(beats)
            service.start(0)
            before = state_of(service)
            self.assertEqual(
                error_of(self, NotEnough, lambda: service.start(0)), {"beat": beats + 1, "tool": "oven"}
            )
            self.assertEqual(state_of(service), before)
            service.wait()
            before = state_of(service)
            self.assertEqual(
                error_of(self, NotEnough, lambda: service.start(1)), {"beat": beats + 1, "tool": "oven"}
            )
            self.assertEqual(state_of(service), before)
            service.start(0)
            service.wait()
            service.wait(0)
            self.assertEqual(
                error_of(self, NotEnough, lambda: service.start(1)), {"beat": beats + 2, "tool": "oven"}
            )

    def test_not_enough_with_the_first_need_that_lacks(self):
        late = Dish("late", [(0, "pot", 1), (5, "oven", 3), (5, "stove", 3)])
        kitchen = Kitchen([("stove", 2), ("pot", 1), ("oven", 2)], [late, Dish("pot", [(0, "pot", 1)])])
        service = Service(kitchen)
        service.wait(3)
        self.assertEqual(error_of(self, NotEnough, lambda: service.start(0)), {"beat": 8, "tool": "oven"})
        service.start(1)
        self.assertEqual(error_of(self, NotEnough, lambda: service.start(0)), {"beat": 3, "tool": "pot"})

    def test_a_service_goes_on_after_an_error(self):
        service = Service(oven())
        service.start(0)
        for index in (0, 1, 2):
            with self.assertRaises((NoDish, NotEnough)):
                service.start(index)
        service.wait(2)
        service.start(1)
        self.check_state(service, ((1,), (0,)), [(1, 0), (0, 0), (0, 1)], (4, 2, 3))

    def test_what_was_returned_is_new(self):
        service = Service(oven())
        service.start(0)
        service.wait()
        before = state_of(service)
        row = service.row
        row[0] = (9, 9)
        row.append((1, 1))
        service.row.clear()
        self.assertEqual(state_of(service), before)
        self.assertIsNot(service.row, service.row)
        service.wait()
        self.assertEqual(row, [(9, 9), (0, 0), (1, 1)])
        self.assertEqual(before[1], [(1, 0), (0, 0)])
        self.assertEqual(service.totals, (3, 1, 3))

    def test_two_services_of_one_kitchen(self):
        kitchen = oven()
        one, two = Service(kitchen), Service(kitchen)
        one.start(0)
        self.check_state(two, ((0,), (0,)), [(0, 0)], (0, 0, 1))
        two.wait()
        two.start(1)
        self.check_state(one, ((1,), (1,)), [(1, 0)], (3, 1, 1))
        self.check_state(two, ((1,), (0,)), [(0, 0), (0, 1)], (1, 1, 2))
        self.check_state(Service(kitchen), ((0,), (0,)), [(0, 0)], (0, 0, 1))

    def test_each_state_follows_from_the_moves(self):
        """Any moves in any order, compared with `after_start` and `after_beat`, whether a start is refused or not."""
        chance = random.Random(4)
        for kitchen in named_kitchens() + random_kitchens(5, 40, 2, 60):
            service = Service(kitchen)
            standing, windows = empty_standing(kitchen), [[0] * len(kitchen.menu)]
            for _ in range(30):
                index = chance.randint(-1, len(kitchen.menu))
                if index == -1:
                    beats = chance.choice([0, 1, 1, 2])
                    service.wait(beats)
                    for _ in range(beats):
                        standing = after_beat(standing)
                        windows.append([0] * len(kitchen.menu))
                else:
                    try:
                        standing = after_start(kitchen, standing, index)
                        windows[-1][index] += 1
                        service.start(index)
                    except NoDish:
                        self.assertEqual(error_of(self, NoDish, lambda: service.start(index)), {"index": index})
                    except NotEnough as lack:
                        wanted = {"beat": len(windows) - 1 + lack.beat, "tool": lack.tool}
                        self.assertEqual(error_of(self, NotEnough, lambda: service.start(index)), wanted)
                row = [tuple(window) for window in windows]
                self.check_state(service, standing, row, row_totals(kitchen, row))

    def test_a_dish_is_started_if_and_only_if_the_row_stays_legal(self):
        chance = random.Random(6)
        refused = 0
        for kitchen in [oven(2), range_kitchen(), oven(3, PIE, TART << 2), *random_kitchens(7, 60, 3, 80)]:
            service = Service(kitchen)
            for _ in range(25):
                index = chance.randrange(len(kitchen.menu))
                window = list(service.row[-1])
                window[index] += 1
                row = [*service.row[:-1], tuple(window)]
                if first_lack(kitchen, row) is None:
                    service.start(index)
                    self.assertEqual(service.row, row)
                else:
                    error_of(self, NotEnough, lambda: service.start(index))
                    refused += 1
                service.wait(chance.choice([0, 0, 1]))
        self.assertGreater(refused, 100)


class ClosedServiceTest(unittest.TestCase):
    def test_a_tool_is_closed_while_the_service_goes_on(self):
        kitchen = oven()
        service = Service(kitchen)
        service.start(0)
        with kitchen.closed("oven"):
            self.assertEqual(service.standing, ((1,), (1,)))
            service.wait()
            self.assertEqual(service.standing, ((1,), (0,)))
            self.assertEqual(error_of(self, NotEnough, lambda: service.start(1)), {"beat": 1, "tool": "oven"})
            service.wait()
            self.assertEqual(error_of(self, NotEnough, lambda: service.start(1)), {"beat": 2, "tool": "oven"})
            self.assertEqual(error_of(self, NoDish, lambda: service.start(2)), {"index": 2})
        self.assertEqual(state_of(service), (((0,), (0,)), [(1, 0), (0, 0), (0, 0)], (3, 1, 3)))
        service.start(1)
        self.assertEqual(service.totals, (4, 2, 3))

    def test_a_service_that_is_made_while_a_tool_is_closed(self):
        kitchen = range_kitchen()
        with kitchen.closed("stove"):
            service = Service(kitchen)
            self.assertEqual(service.standing, ((0, 0, 0),) * 4)
            self.assertEqual(error_of(self, NotEnough, lambda: service.start(0)), {"beat": 1, "tool": "stove"})
            service.start(1)
        service.start(0)
        self.assertEqual(service.row, [(1, 1)])

    def test_needs_of_earlier_starts_stay_and_only_own_needs_are_asked_of_a_start(self):
        kitchen = Kitchen([("oven", 1), ("pot", 1)], [PIE, Dish("soup", [(0, "pot", 1)], second=4)])
        service = Service(kitchen)
        service.start(0)
        with kitchen.closed("oven"):
            # More of the oven is in use than there is, but the soup does not need it.
            service.start(1)
            self.assertEqual(service.standing, ((1, 1), (1, 0)))
        self.assertEqual(service.totals, (3, 5, 1))

    def test_ask_closed_about_a_service(self):
        kitchen = oven(1, TART)
        service = Service(kitchen)
        with self.assertRaises(NotEnough):
            ask_closed(kitchen, "oven", lambda held: service.start(0))
        self.assertEqual(state_of(service), (((0,),), [(0,)], (0, 0, 1)))
        ask_closed(kitchen, "oven", lambda held: service.wait(2))
        service.start(0)
        self.assertEqual(state_of(service), (((1,),), [(0,), (0,), (1,)], (1, 1, 3)))


class ServeClosedTest(unittest.TestCase):
    def setUp(self):
        soup = Dish("soup", [(0, "pot", 1), (1, "pot", 1)], first=2, second=4)
        self.kitchen = Kitchen([("oven", 2), ("pot", 1), ("stove", 3)], [PIE, soup, TART, STEW])
        self.service = Service(self.kitchen)

    def tearDown(self):
        self.assertEqual(self.kitchen.numbers, (2, 1, 3))

    def check_started(self, tool, indexes, started, row):
        passed = list(indexes)
        returned = serve_closed(self.service, tool, passed)
        self.assertIs(type(returned), list)
        self.assertEqual((returned, passed, self.service.row), (started, indexes, row))
        self.assertEqual(self.kitchen.numbers, (2, 1, 3))

    def test_what_fits_is_started(self):
        self.check_started("oven", [0, 1, 2, 3], [1], [(0, 1, 0, 0)])
        self.assertEqual(self.service.totals, (2, 4, 1))
        self.check_started("pot", [1, 0, 0, 2, 0], [0, 0], [(2, 1, 0, 0)])
        self.check_started("stove", [2, 3], [], [(2, 1, 0, 0)])
        self.service.wait(2)
        self.check_started("stove", [3, 2, 1, 2, 1, 2], [2, 1, 2], [(2, 1, 0, 0), (0, 0, 0, 0), (0, 1, 2, 0)])
        self.assertEqual(self.service.standing, ((2, 1, 0), (0, 1, 0), (0, 0, 0), (0, 0, 0)))

    def test_a_dish_that_does_not_fit_at_first_is_not_started_later(self):
        self.check_started("stove", [3, 0, 3, 0, 0, 2], [0, 0], [(2, 0, 0, 0)])

    def test_no_indexes(self):
        self.check_started("pot", [], [], [(0, 0, 0, 0)])

    def test_a_tool_that_no_dish_needs(self):
        kitchen = Kitchen([("oven", 1), ("pan", 0)], [TART])
        service = Service(kitchen)
        self.assertEqual(serve_closed(indexes=[0, 0], tool="pan", service=service), [0])
        self.assertEqual(service.row, [(1,)])
        self.assertEqual(kitchen.numbers, (1, 0))

    def test_what_is_returned_is_new(self):
        indexes = [1]
        started = serve_closed(self.service, "oven", indexes)
        started.append(3)
        self.assertEqual((indexes, self.service.row), ([1], [(0, 1, 0, 0)]))

    def test_no_dish_in_the_middle_keeps_the_starts_before(self):
        for at, wrong in [(2, 4), (2, -1), (0, 4), (1, -4), (3, 10**9)]:
            service = Service(self.kitchen)
            indexes = [0, 3, 2]
            indexes.insert(at, wrong)
            self.assertEqual(
                error_of(self, NoDish, lambda: serve_closed(service, "stove", indexes)), {"index": wrong}
            )
            self.assertEqual(service.row, [(min(at, 1), 0, max(at - 2, 0), 0)])
            self.assertEqual(service.standing[0], (min(at, 1) + max(at - 2, 0), 0, 0))
            self.assertEqual(self.kitchen.numbers, (2, 1, 3))
            self.assertEqual(indexes[at], wrong)

    def test_the_first_of_several_wrong_indexes(self):
        self.assertEqual(
            error_of(self, NoDish, lambda: serve_closed(self.service, "pot", [2, 1, 7, -1, 2])), {"index": 7}
        )
        self.assertEqual(self.service.row, [(0, 0, 1, 0)])

    def test_unknown_tool_before_anything_else(self):
        for tool in ("pan", "", "Oven"):
            for indexes in ([], [0], [9], [0, -1]):
                before = state_of(self.service)
                self.assertEqual(
                    error_of(self, UnknownTool, lambda: serve_closed(self.service, tool, indexes)), {"tool": tool}
                )
                self.assertEqual(state_of(self.service), before)

    def test_within_a_block(self):
        with self.kitchen.closed("oven") as held:
            self.assertEqual(serve_closed(self.service, "pot", [0, 1, 2, 3]), [])
            self.assertEqual(serve_closed(self.service, "oven", [0, 1, 2, 3]), [1])
            self.assertEqual(held.numbers, (0, 1, 3))
            error_of(self, NoDish, lambda: serve_closed(self.service, "pot", [4]))
            error_of(self, UnknownTool, lambda: serve_closed(self.service, "pan", []))
            self.assertEqual(held.numbers, (0, 1, 3))

    def test_needs_of_earlier_starts_stay(self):
        self.service.start(0)
        self.service.start(3)
        self.check_started("oven", [1, 2], [1], [(1, 1, 0, 1)])
        self.assertEqual(self.service.standing, ((1, 1, 0), (2, 1, 2), (0, 0, 0), (0, 0, 1)))


if __name__ == "__main__":
    unittest.main()
