import random
import unittest

from mixpace.dishes import Dish
from mixpace.errors import InvalidRow, NotEnough
from mixpace.kitchens import Kitchen, ask_closed
from mixpace.rows import first_lack, ring_lack, ring_mean, row_totals, stretch_totals
from mixpace.standings import after_beat, after_start, empty_standing

PIE = Dish("pie", [(0, "oven", 1), (1, "oven", 1)], first=3, second=1)
TART = Dish("tart", [(0, "oven", 1)], first=1, second=-4)
# The order of the kitchen's tools is not that of their names.
STEW = Dish("stew", [(0, "stove", 1), (2, "oven", 2), (2, "stove", 1), (3, "pot", 1)], first=-5, second=2)


def oven(number=1):
    return Kitchen([("oven", number)], [PIE, TART])


def large_kitchen():
    return Kitchen([("stove", 2), ("pot", 1), ("oven", 3)], [STEW, PIE])


def all_questions(kitchen, row):
    """Each function of rows.py, asked about the row, by its name."""
    return {
        "first_lack": lambda: first_lack(kitchen, row),
        "row_totals": lambda: row_totals(kitchen, row),
        "stretch_totals": lambda: stretch_totals(kitchen, row, 0, len(row)),
        "ring_lack": lambda: ring_lack(kitchen, row),
        "ring_mean": lambda: ring_mean(kitchen, row),
    }


def random_kitchen(chance):
    tools = [(name, chance.randint(0, 6)) for name in ["z", "b", "m"][: chance.randint(1, 3)]]
    menu = []
    for _ in range(chance.randint(1, 3)):
        needs = []
        for _ in range(chance.randint(1, 4)):
            needs.append((chance.randint(0, 4), chance.choice(tools)[0], chance.randint(1, 2)))
        menu.append(Dish("dish", needs, first=chance.randint(-3, 3), second=chance.randint(-3, 3)))
    return Kitchen(tools, menu)


def random_row(chance, kitchen, least=0):
    return [tuple(chance.choice([0, 0, 0, 1, 2]) for _ in kitchen.menu) for _ in range(chance.randint(least, 6))]


def lack_by_counting(kitchen, row, beats, places):
    """Counts the use of each tool at each beat; `places` tells the beat at which a need counts."""
    for beat in range(beats):
        for tool, number in zip(kitchen.tools, kitchen.numbers):
            used = 0
            for at, window in enumerate(row):
                for dish, many in zip(kitchen.menu, window):
                    amounts = [need[2] for need in dish.needs if need[1] == tool and places(at + need[0]) == beat]
                    used += many * sum(amounts)
            if used > number:
                return (beat, tool)
    return None


class FirstLackTest(unittest.TestCase):
    def test_legal_rows(self):
        for row in [[(0, 0)], [(1, 0)], [(0, 1)], [(1, 0), (0, 0), (1, 0)], [(0, 1), (0, 1)], [(1, 0), (0, 0), (0, 1)]]:
            with self.subTest(row):
                self.assertIsNone(first_lack(oven(), row))
        self.assertIsNone(first_lack(oven(3), [(1, 0), (1, 1), (0, 2)]))

    def test_rows_with_a_lack(self):
        self.assertEqual(first_lack(oven(), [(1, 1)]), (0, "oven"))
        self.assertEqual(first_lack(oven(), [(0, 2)]), (0, "oven"))
        self.assertEqual(first_lack(oven(), [(1, 0), (0, 1)]), (1, "oven"))
        self.assertEqual(first_lack(oven(), [(0, 0), (1, 0), (0, 0), (1, 1)]), (3, "oven"))
        self.assertEqual(first_lack(oven(3), [(1, 0), (1, 1), (1, 2)]), (2, "oven"))

    def test_how_many_are_started_counts(self):
        self.assertIsNone(first_lack(oven(7), [(3, 4)]))
        self.assertEqual(first_lack(oven(6), [(3, 4)]), (0, "oven"))
        self.assertEqual(first_lack(oven(7), [(3, 4), (5, 0)]), (1, "oven"))
        self.assertIsNone(first_lack(oven(8), [(3, 4), (5, 0)]))

    def test_amounts_count(self):
        kitchen = Kitchen([("oven", 11)], [Dish("x", [(0, "oven", 4), (1, "oven", 3)])])
        self.assertIsNone(first_lack(kitchen, [(2,), (1,)]))
        self.assertEqual(first_lack(kitchen, [(2,), (2,)]), (1, "oven"))

    def test_beats_after_the_end(self):
        kitchen = large_kitchen()
        self.assertIsNone(first_lack(kitchen, [(1, 0)]))
        self.assertEqual(first_lack(kitchen, [(2, 0)]), (2, "oven"))
        self.assertEqual(first_lack(kitchen.with_number("oven", 4), [(2, 0)]), (3, "pot"))
        self.assertEqual(first_lack(kitchen.with_number("oven", 4), [(0, 0), (2, 0)]), (4, "pot"))
        late = Kitchen([("oven", 1)], [Dish("x", [(100, "oven", 2)]), TART])
        self.assertEqual(first_lack(late, [(1, 0)]), (100, "oven"))
        self.assertEqual(first_lack(late, [(0, 1), (0, 0), (1, 0), (0, 1)]), (102, "oven"))

    def test_the_first_beat_comes_before_the_first_tool(self):
        kitchen = Kitchen([("stove", 0), ("oven", 0)], [Dish("x", [(0, "oven", 1), (1, "stove", 1)])])
        self.assertEqual(first_lack(kitchen, [(0,), (1,)]), (1, "oven"))

    def test_the_first_tool_in_the_order_of_the_kitchen(self):
        dish = Dish("x", [(0, "a", 1), (0, "b", 1), (0, "c", 1)])
        self.assertEqual(first_lack(Kitchen([("c", 0), ("b", 0), ("a", 0)], [dish]), [(1,)]), (0, "c"))
        self.assertEqual(first_lack(Kitchen([("c", 1), ("b", 0), ("a", 0)], [dish]), [(1,)]), (0, "b"))
        self.assertEqual(first_lack(Kitchen([("b", 1), ("c", 1), ("a", 0)], [dish]), [(1,)]), (0, "a"))

    def test_a_later_window_can_make_the_first_lack(self):
        # The needs of the first window lack in beat 5, those of the second one in beat 1.
        kitchen = Kitchen([("a", 1), ("b", 1)], [Dish("x", [(5, "a", 2)]), Dish("y", [(0, "b", 2)])])
        self.assertEqual(first_lack(kitchen, [(1, 0), (0, 1)]), (1, "b"))

    def test_the_empty_row_is_legal(self):
        for kitchen in [oven(), oven(0), large_kitchen(), Kitchen([], []), Kitchen([("oven", 0)], [])]:
            self.assertIsNone(first_lack(kitchen, []))

    def test_without_tools_and_with_an_empty_menu(self):
        self.assertIsNone(first_lack(Kitchen([], []), [(), (), ()]))
        self.assertIsNone(first_lack(Kitchen([("oven", 0)], []), [()]))

    def test_the_present_numbers(self):
        kitchen = large_kitchen()
        row = [(1, 0)]
        self.assertEqual(ask_closed(kitchen, "stove", lambda held: first_lack(held, row)), (0, "stove"))
        self.assertEqual(ask_closed(kitchen, "oven", lambda held: first_lack(held, row)), (2, "oven"))
        self.assertEqual(ask_closed(kitchen, "pot", lambda held: first_lack(held, row)), (3, "pot"))
        self.assertIsNone(first_lack(kitchen, row))
        with kitchen.closed("oven"):
            self.assertIsNone(first_lack(kitchen, [(0, 0)] * 5))

    def test_by_name(self):
        self.assertEqual(first_lack(row=[(1, 1)], kitchen=oven()), (0, "oven"))

    def test_3000_windows(self):
        kitchen = Kitchen([("oven", 1), ("pot", 2)], [PIE, Dish("tea", [(40, "pot", 1)])])
        row = [(1, 1), (0, 1)] * 1500
        self.assertIsNone(first_lack(kitchen, row))
        for last, lack in [((0, 2), None), ((1, 2), (2999, "oven")), ((1, 3), (2999, "oven")), ((0, 3), (3039, "pot"))]:
            self.assertEqual(first_lack(kitchen, row[:2999] + [last]), lack)

    def test_as_large_as_the_bounds_of_use(self):
        needs = [(beat, tool, 100000) for beat in range(41, 101) for tool in ["a"]]
        kitchen = Kitchen([(tool, 1000) for tool in "abcdef"], [Dish("x", needs)] * 8)
        row = [(0,) * 8] * 2999 + [(1000,) * 8]
        self.assertEqual(first_lack(kitchen, row), (3040, "a"))
        self.assertEqual(ring_lack(kitchen, row), (40, "a"))

    def test_against_counting(self):
        chance = random.Random(3)
        lacks = 0
        for _ in range(300):
            kitchen = random_kitchen(chance)
            row = random_row(chance, kitchen)
            lack = first_lack(kitchen, row)
            with self.subTest(row=row, numbers=kitchen.numbers, menu=[dish.needs for dish in kitchen.menu]):
                self.assertEqual(lack, lack_by_counting(kitchen, row, 12, lambda beat: beat))
            lacks += lack is not None
        self.assertTrue(50 < lacks < 250)

    def test_a_row_is_legal_if_its_starts_fit_one_by_one(self):
        chance = random.Random(4)
        for _ in range(200):
            kitchen = random_kitchen(chance)
            row = random_row(chance, kitchen)
            standing, fits = empty_standing(kitchen), True
            try:
                for window in row:
                    for index, many in enumerate(window):
                        for _ in range(many):
                            standing = after_start(kitchen, standing, index)
                    standing = after_beat(standing)
            except NotEnough:
                fits = False
            self.assertIs(first_lack(kitchen, row) is None, fits)


class RingLackTest(unittest.TestCase):
    def test_legal_rings(self):
        for ring in [[(0, 0)], [(0, 1)], [(1, 0), (0, 0)], [(0, 0), (1, 0)], [(1, 0), (0, 0), (0, 1)], [(0, 1)] * 3]:
            with self.subTest(ring):
                self.assertIsNone(ring_lack(oven(), ring))

    def test_needs_around_the_end(self):
        # As rows these are legal; the last pie is still in the oven when the ring begins again.
        self.assertEqual(ring_lack(oven(), [(0, 1), (1, 0)]), (0, "oven"))
        self.assertEqual(ring_lack(oven(), [(0, 1), (0, 0), (1, 0)]), (0, "oven"))
        self.assertIsNone(first_lack(oven(), [(0, 1), (0, 0), (1, 0)]))
        self.assertEqual(ring_lack(oven(), [(1, 0), (0, 1)]), (1, "oven"))
        self.assertIsNone(ring_lack(oven(2), [(1, 0), (0, 1)]))

    def test_a_dish_longer_than_the_ring(self):
        self.assertEqual(ring_lack(oven(), [(1, 0)]), (0, "oven"))
        self.assertIsNone(ring_lack(oven(2), [(1, 0)]))
        self.assertEqual(ring_lack(oven(2), [(1, 1)]), (0, "oven"))
        long = Dish("long", [(beat, "oven", 1) for beat in range(7)])
        for beats, use in [(1, 7), (2, 4), (3, 3), (4, 2), (5, 2), (6, 2), (7, 1), (8, 1)]:
            ring = [(1,)] + [(0,)] * (beats - 1)
            with self.subTest(beats):
                self.assertIsNone(ring_lack(Kitchen([("oven", use)], [long]), ring))
                self.assertEqual(ring_lack(Kitchen([("oven", use - 1)], [long]), ring), (0, "oven"))
        self.assertEqual(ring_lack(Kitchen([("oven", 3)], [long]), [(0,), (1,)]), (1, "oven"))
        late = Kitchen([("oven", 1)], [Dish("late", [(100, "oven", 2)])])
        self.assertEqual(ring_lack(late, [(1,), (0,), (0,)]), (1, "oven"))
        self.assertEqual(ring_lack(late, [(0,), (0,), (1,)]), (0, "oven"))
        self.assertEqual(ring_lack(late, [(0,), (1,), (0,)]), (2, "oven"))

    def test_the_order_of_beats_and_tools(self):
        kitchen = Kitchen([("stove", 0), ("oven", 0)], [Dish("x", [(0, "oven", 1), (1, "stove", 1)])])
        self.assertEqual(ring_lack(kitchen, [(1,)]), (0, "stove"))
        self.assertEqual(ring_lack(kitchen, [(1,), (0,)]), (0, "oven"))
        self.assertEqual(ring_lack(kitchen, [(0,), (1,)]), (0, "stove"))
        self.assertEqual(ring_lack(kitchen, [(0,), (1,), (0,)]), (1, "oven"))
        dish = Dish("x", [(0, "a", 1), (0, "b", 1), (0, "c", 1)])
        self.assertEqual(ring_lack(Kitchen([("c", 0), ("b", 0), ("a", 0)], [dish]), [(0,), (1,)]), (1, "c"))
        self.assertEqual(ring_lack(Kitchen([("c", 1), ("b", 0), ("a", 0)], [dish]), [(0,), (1,)]), (1, "b"))

    def test_how_many_and_amounts_count(self):
        kitchen = Kitchen([("oven", 22)], [Dish("x", [(0, "oven", 4), (3, "oven", 3)])])
        self.assertIsNone(ring_lack(kitchen, [(2,), (4,)]))
        self.assertEqual(ring_lack(kitchen, [(2,), (5,)]), (0, "oven"))
        self.assertEqual(ring_lack(kitchen, [(1,), (5,)]), (1, "oven"))
        self.assertEqual(ring_lack(kitchen.with_number("oven", 21), [(2,), (4,)]), (1, "oven"))

    def test_without_tools_and_with_an_empty_menu(self):
        self.assertIsNone(ring_lack(Kitchen([], []), [()]))
        self.assertIsNone(ring_lack(Kitchen([("oven", 0)], []), [(), ()]))

    def test_the_present_numbers(self):
        kitchen = oven()
        self.assertEqual(ask_closed(kitchen, "oven", lambda held: ring_lack(held, [(0, 0), (0, 1)])), (1, "oven"))
        self.assertIsNone(ask_closed(kitchen, "oven", lambda held: ring_lack(held, [(0, 0)])))
        self.assertIsNone(ring_lack(kitchen, [(0, 0), (0, 1)]))

    def test_by_name(self):
        self.assertEqual(ring_lack(ring=[(1, 0)], kitchen=oven()), (0, "oven"))

    def test_3000_windows(self):
        kitchen = Kitchen([("oven", 1), ("pot", 2)], [PIE, Dish("tea", [(40, "pot", 1)])])
        ring = [(1, 1), (0, 1)] * 1500
        self.assertIsNone(ring_lack(kitchen, ring))
        ring[2999] = (0, 3)
        self.assertEqual(ring_lack(kitchen, ring), (39, "pot"))
        ring[2999] = (1, 3)
        self.assertEqual(ring_lack(kitchen, ring), (0, "oven"))

    def test_against_counting(self):
        chance = random.Random(5)
        lacks = 0
        for _ in range(300):
            kitchen = random_kitchen(chance)
            ring = random_row(chance, kitchen, least=1)
            many = len(ring)
            lack = ring_lack(kitchen, ring)
            with self.subTest(ring=ring, numbers=kitchen.numbers, menu=[dish.needs for dish in kitchen.menu]):
                self.assertEqual(lack, lack_by_counting(kitchen, ring, many, lambda beat: beat - many * (beat // many)))
            lacks += lack is not None
        self.assertTrue(50 < lacks < 250)

    def test_a_legal_ring_repeated_is_a_legal_row(self):
        chance = random.Random(6)
        for _ in range(200):
            kitchen = random_kitchen(chance)
            ring = random_row(chance, kitchen, least=1)
            self.assertIs(ring_lack(kitchen, ring) is None, first_lack(kitchen, ring * 6) is None)


class TotalsTest(unittest.TestCase):
    def test_row_totals(self):
        self.assertEqual(row_totals(oven(), [(1, 0)]), (3, 1, 1))
        self.assertEqual(row_totals(oven(), [(0, 1), (0, 0)]), (1, -4, 2))
        self.assertEqual(row_totals(oven(), [(2, 3), (0, 0), (1, 0), (0, 5)]), (17, -29, 4))
        self.assertEqual(row_totals(large_kitchen(), [(2, 0), (1, 1)]), (-12, 7, 2))

    def test_totals_are_not_in_lowest_terms(self):
        self.assertEqual(row_totals(oven(), [(0, 0), (0, 0)]), (0, 0, 2))
        self.assertEqual(row_totals(oven(), [(2, 0), (0, 0)]), (6, 2, 2))
        self.assertEqual(stretch_totals(oven(), [(2, 0), (0, 0)], 0, 2), (6, 2, 2))

    def test_empty_rows_and_windows_without_numbers(self):
        self.assertEqual(row_totals(oven(), []), (0, 0, 0))
        self.assertEqual(row_totals(Kitchen([], []), []), (0, 0, 0))
        self.assertEqual(row_totals(Kitchen([], []), [(), (), ()]), (0, 0, 3))
        self.assertEqual(stretch_totals(oven(), [], 0, 0), (0, 0, 0))
        self.assertEqual(stretch_totals(Kitchen([], []), [(), (), ()], 1, 3), (0, 0, 2))

    def test_the_row_need_not_be_legal(self):
        self.assertEqual(row_totals(oven(0), [(5, 0), (1000, 1000)]), (4015, -2995, 2))
        self.assertEqual(stretch_totals(oven(0), [(5, 0), (1000, 1000)], 1, 2), (4000, -3000, 1))
        self.assertEqual(ask_closed(oven(), "oven", lambda held: row_totals(held, [(1, 0)])), (3, 1, 1))

    def test_stretches(self):
        row = [(1, 0), (0, 0), (0, 1), (2, 2)]
        cases = {
            (0, 4): (12, -9, 4),
            (0, 1): (3, 1, 1),
            (0, 2): (3, 1, 2),
            (1, 3): (1, -4, 2),
            (1, 2): (0, 0, 1),
            (2, 4): (9, -10, 2),
            (3, 4): (8, -6, 1),
        }
        for (begin, end), totals in cases.items():
            with self.subTest(begin=begin, end=end):
                self.assertEqual(stretch_totals(oven(), row, begin, end), totals)

    def test_empty_stretches(self):
        row = [(1, 0), (0, 0), (0, 1), (2, 2)]
        for begin, end in [(0, 0), (2, 2), (4, 4), (1, 0), (4, 0), (3, 1), (4, 3)]:
            with self.subTest(begin=begin, end=end):
                self.assertEqual(stretch_totals(oven(), row, begin, end), (0, 0, 0))

    def test_stretches_beside_each_other_add_up(self):
        row = [(1, 0), (0, 3), (0, 1), (2, 2), (5, 0)]
        for middle in range(6):
            parts = [stretch_totals(oven(), row, 0, middle), stretch_totals(oven(), row, middle, 5)]
            self.assertEqual(tuple(map(sum, zip(*parts))), row_totals(oven(), row))

    def test_ring_mean(self):
        self.assertEqual(ring_mean(oven(), [(1, 0), (0, 0)]), (3, 1, 2))
        self.assertEqual(ring_mean(oven(), [(0, 1)]), (1, -4, 1))
        self.assertEqual(ring_mean(oven(), [(0, 2), (0, 0)]), (1, -4, 1))
        self.assertEqual(ring_mean(oven(), [(2, 0), (0, 0), (2, 0), (0, 0)]), (3, 1, 1))
        self.assertEqual(ring_mean(oven(), [(0, 0)] * 5), (0, 0, 1))
        self.assertEqual(ring_mean(large_kitchen(), [(2, 0), (0, 0)]), (-5, 2, 1))
        self.assertEqual(ring_mean(Kitchen([], []), [()] * 4), (0, 0, 1))

    def test_the_ring_need_not_be_legal(self):
        self.assertEqual(ring_mean(oven(0), [(1000, 0)]), (3000, 1000, 1))
        self.assertEqual(ask_closed(oven(), "oven", lambda held: ring_mean(held, [(1, 1)])), (4, -3, 1))

    def test_great_worths(self):
        kitchen = Kitchen([("oven", 1)], [Dish("x", [(0, "oven", 1)], first=10**12, second=-(10**12) + 1)])
        row = [(1000,)] * 3000
        self.assertEqual(row_totals(kitchen, row), (3 * 10**18, -3 * 10**18 + 3 * 10**6, 3000))
        self.assertEqual(stretch_totals(kitchen, row, 1, 2999), (2998 * 10**15, -2998 * 10**15 + 2998 * 10**3, 2998))
        self.assertEqual(ring_mean(kitchen, row), (10**15, -(10**15) + 1000, 1))

    def test_by_name(self):
        row = [(1, 0), (0, 0)]
        self.assertEqual(row_totals(row=row, kitchen=oven()), (3, 1, 2))
        self.assertEqual(stretch_totals(end=1, begin=0, row=row, kitchen=oven()), (3, 1, 1))
        self.assertEqual(ring_mean(ring=row, kitchen=oven()), (3, 1, 2))


class InvalidRowTest(unittest.TestCase):
    def check(self, beat, question):
        with self.assertRaises(InvalidRow) as caught:
            question()
        self.assertEqual(caught.exception.beat, beat)

    def check_all(self, beat, kitchen, row):
        for name, question in all_questions(kitchen, row).items():
            with self.subTest(name, row=row):
                self.check(beat, question)

    def test_too_few_and_too_many_numbers(self):
        for window in [(), (0,), (1,), (0, 0, 0), (1, 0, 0, 0)]:
            self.check_all(0, oven(), [window])
            self.check_all(0, oven(), [window, (0, 0)])
            self.check_all(1, oven(), [(0, 0), window])
            self.check_all(2, oven(), [(0, 0), (1, 0), window, (0, 0)])

    def test_negative_numbers(self):
        for window in [(-1, 0), (0, -1), (1, -1), (-1, 1), (-1000, -1000)]:
            self.check_all(0, oven(), [window])
            self.check_all(1, oven(), [(0, 0), window])
            self.check_all(2, oven(9), [(0, 0), (1, 1), window, (1, 0)])

    def test_an_empty_menu(self):
        self.check_all(0, Kitchen([], []), [(0,)])
        self.check_all(1, Kitchen([("oven", 1)], []), [(), (0,), ()])

    def test_the_first_invalid_window_counts(self):
        wrong = [(0,), (0, 0, 0), (-1, 0), (0, -1)]
        for first in wrong:
            for second in wrong:
                self.check_all(1, oven(), [(0, 0), first, (0, 0), second])

    def test_an_invalid_window_comes_before_a_lack(self):
        self.check_all(2, oven(0), [(5, 5), (5, 5), (0, -1)])
        self.check_all(2, oven(0), [(5, 5), (5, 5), (0,)])

    def test_an_invalid_window_outside_of_the_stretch(self):
        row = [(0, 0), (1, 0), (0, -1), (0, 0), (0,)]
        for begin, end in [(0, 1), (0, 2), (3, 4), (2, 3), (1, 4), (4, 5), (0, 0), (5, 5), (4, 1), (5, 0)]:
            with self.subTest(begin=begin, end=end):
                self.check(2, lambda: stretch_totals(oven(), row, begin, end))
                self.check(0, lambda: stretch_totals(oven(), row[4:] + row[:1], 1, 2))
                self.check(1, lambda: stretch_totals(oven(), row[:1] + row[4:], 0, 1))

    def test_the_last_of_3000_windows(self):
        self.check_all(2999, oven(), [(0, 0)] * 2999 + [(0, 0, 0)])

    def test_the_empty_ring(self):
        for kitchen in [oven(), large_kitchen(), Kitchen([], [])]:
            self.check(0, lambda: ring_lack(kitchen, []))
            self.check(0, lambda: ring_mean(kitchen, []))

    def test_no_error_for_the_empty_row(self):
        for kitchen in [oven(), large_kitchen(), Kitchen([], [])]:
            self.assertIsNone(first_lack(kitchen, []))
            self.assertEqual(row_totals(kitchen, []), (0, 0, 0))
            self.assertEqual(stretch_totals(kitchen, [], 0, 0), (0, 0, 0))

    def test_rows_and_kitchens_stay_as_they_are(self):
        kitchen = large_kitchen()
        for row in [[(1, 0), (0, 1)], [(1, 0), (0, -1)], [(2, 0), (5, 9)]]:
            before = list(row)
            for question in all_questions(kitchen, row).values():
                for _ in range(2):
                    try:
                        question()
                    except InvalidRow:
                        pass
                    self.assertEqual(row, before)
        self.assertEqual((kitchen.numbers, kitchen.menu), ((2, 1, 3), [STEW, PIE]))


if __name__ == "__main__":
    unittest.main()
