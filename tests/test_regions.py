import random
import unittest
from fractions import Fraction

from mixpace.dishes import Dish
from mixpace.kitchens import Kitchen, ask_closed
from mixpace.polygons import Region
from mixpace.regions import best_ring, corner_rings, region_of
from mixpace.rows import ring_mean, row_totals
from mixpace.standings import all_standings
from tests.samples import (
    GREAT,
    LOSS,
    PIE,
    ROAST,
    TART,
    check_ring,
    farthest,
    graph_by_needs,
    holds,
    large_kitchens,
    legal_rows,
    named_kitchens,
    oven,
    random_kitchens,
    range_kitchen,
    ring_means,
    sample_kitchens,
    worth_of,
)

GAPS = Dish("gaps", [(0, "oven", 1), (2, "oven", 1), (3, "oven", 1)], first=4, second=-5)
DIRECTIONS = [(1, 0), (0, 1), (-1, 0), (0, -1), (1, 1), (3, -2), (-1, 4), (-5, -7), (0, 0)]


def is_left_of_all(corners):
    """Tells whether the way around the corners turns left at each of them."""
    points = [(Fraction(first, beats), Fraction(second, beats)) for first, second, beats in corners]
    turns = []
    for (px, py), (qx, qy), (rx, ry) in zip(points, points[1:] + points[:1], points[2:] + points[:2]):
        turns.append((qx - px) * (ry - py) - (qy - py) * (rx - px))
    return min(turns) > 0


class RegionOfTest(unittest.TestCase):
    def check_region(self, kitchen, most):
        """Checks that rings keep up the corners and that nothing lies behind the sides."""
        region = region_of(kitchen)
        self.assertIs(type(region), Region)
        rings = corner_rings(kitchen)
        self.assertIs(type(rings), list)
        self.assertEqual([ring_mean(kitchen, ring) for ring in rings], region.corners)
        for ring in rings:
            check_ring(self, kitchen, ring, most)
        for a, b, c in region.sides:
            self.assertTrue(holds(kitchen, (a, b, c)))
            self.assertFalse(holds(kitchen, (a, b, c - 1)))
        self.assertIn((0, 0, 1), region)
        self.assertTrue(len(region.corners) < 3 or is_left_of_all(region.corners))

    def test_small_kitchens(self):
        for kitchen, corners in [
            (oven(), [(0, 0, 1), (3, 1, 2), (1, 1, 1)]),
            (oven(2), [(0, 0, 1), (3, 1, 1), (2, 2, 1)]),
            (oven(1, PIE), [(0, 0, 1), (3, 1, 2)]),
            (oven(5, TART), [(0, 0, 1), (5, 5, 1)]),
            (oven(1, LOSS), [(-2, -1, 1), (0, 0, 1)]),
            (oven(3, ROAST, PIE), [(0, 0, 1), (2, -3, 2), (8, -1, 3), (9, 3, 2)]),
            (oven(1, PIE, TART, LOSS), [(-2, -1, 1), (3, 1, 2), (1, 1, 1)]),
            (oven(1, PIE, LOSS, TART << 1, Dish("gain", [(0, "oven", 1)], first=-1, second=2)),
             [(-2, -1, 1), (3, 1, 2), (1, 1, 1), (-1, 2, 1)]),
        ]:
            self.assertEqual(region_of(kitchen).corners, corners)
            self.check_region(kitchen, len(graph_by_needs(kitchen)))

    def test_points_and_segments(self):
        nothing = Dish("nothing", [(0, "oven", 1)])
        for kitchen in [Kitchen([], []), Kitchen([("oven", 2)], []), oven(0), oven(1, ROAST), oven(4, nothing)]:
            self.assertEqual(region_of(kitchen).corners, [(0, 0, 1)])
            self.assertEqual(region_of(kitchen).sides, [(0, -1, 0), (1, 0, 0), (0, 1, 0), (-1, 0, 0)])
            self.check_region(kitchen, len(graph_by_needs(kitchen)))
        self.assertEqual(corner_rings(Kitchen([], [])), [[()]])
        for dish, corners in [
            (TART, [(0, 0, 1), (1, 1, 1)]),
            (LOSS, [(-2, -1, 1), (0, 0, 1)]),
            (Dish("high", [(0, "oven", 1)], second=7), [(0, 0, 1), (0, 7, 1)]),
            (Dish("low", [(0, "oven", 1)], second=-7), [(0, -7, 1), (0, 0, 1)]),
            (Dish("left", [(0, "oven", 1)], first=-7), [(-7, 0, 1), (0, 0, 1)]),
            (Dish("falling", [(2, "oven", 1)], first=1, second=-10**12), [(0, 0, 1), (1, -10**12, 1)]),
        ]:
            self.assertEqual(region_of(oven(1, dish)).corners, corners)
            self.check_region(oven(1, dish), len(graph_by_needs(oven(1, dish))))
        both = oven(2, LOSS, Dish("gain", [(0, "oven", 2)], first=2, second=1))
        self.assertEqual(region_of(both).corners, [(-4, -2, 1), (2, 1, 1)])

    def test_named_kitchens(self):
        for kitchen in named_kitchens():
            self.check_region(kitchen, len(graph_by_needs(kitchen)))

    def test_random_kitchens(self):
        for kitchen in random_kitchens(31, 100, 2, 50) + random_kitchens(32, 30, 20, 100, beats=5):
            self.check_region(kitchen, len(graph_by_needs(kitchen)))

    def test_large_kitchens(self):
        for kitchen in large_kitchens():
            most = len(all_standings(kitchen))
            self.assertTrue(80 <= most <= 100)
            self.check_region(kitchen, most)

    def test_the_corners_of_all_rings(self):
        for kitchen in sample_kitchens(33, 60, 6):
            means = ring_means(kitchen, legal_rows(kitchen, len(graph_by_needs(kitchen))))
            self.assertEqual(region_of(kitchen), Region(sorted(means)))

    def test_single_dishes_at_even_distances(self):
        """A dish that needs one oven at beats 0 and `gap` can be started in every second beat, on average."""
        for gap in range(1, 7):
            kitchen = oven(1, Dish("again", [(0, "oven", 1), (gap, "oven", 1)], first=6, second=-1))
            self.assertEqual(region_of(kitchen).corners, [(0, 0, 1), (6, -1, 2)])
        kitchen = oven(1, Dish("three", [(0, "oven", 1), (1, "oven", 1), (3, "oven", 1)], first=1))
        self.assertEqual(region_of(kitchen).corners, [(0, 0, 1), (1, 0, 4)])

    def test_by_name(self):
        kitchen = oven()
        self.assertEqual(region_of(kitchen=kitchen), region_of(kitchen))
        self.assertEqual(corner_rings(kitchen=kitchen), corner_rings(kitchen))

    def test_what_is_returned_is_new(self):
        kitchen = oven()
        region = region_of(kitchen)
        region.corners.clear()
        region.sides.append((0, 0, 0))
        self.assertEqual(region.corners, [(0, 0, 1), (3, 1, 2), (1, 1, 1)])
        rings = corner_rings(kitchen)
        wanted = [list(ring) for ring in rings]
        rings[0].append((5, 5))
        rings[1][0] = (9, 9)
        rings.pop()
        self.assertEqual(corner_rings(kitchen), wanted)
        self.assertEqual(region_of(kitchen), region)


class ChangedKitchensTest(unittest.TestCase):
    """What becomes of the region when a kitchen or its dishes are changed."""

    def kitchens(self):
        return [
            oven(2),
            oven(3, ROAST, PIE),
            oven(1, PIE, LOSS, GAPS),
            range_kitchen(),
            *random_kitchens(34, 40, 3, 30),
        ]

    def with_menu(self, kitchen, menu):
        return Kitchen(list(zip(kitchen.tools, kitchen.numbers)), menu)

    def check_same(self, kitchen, other):
        self.assertEqual(region_of(other), region_of(kitchen))
        self.assertEqual(region_of(other).corners, region_of(kitchen).corners)

    def test_a_dish_that_is_moved(self):
        for kitchen in self.kitchens():
            for at, dish in enumerate(kitchen.menu):
                for beats in (1, 2):
                    menu = kitchen.menu
                    menu[at] = dish << beats
                    if graph_by_needs(self.with_menu(kitchen, menu), 150):
                        self.check_same(kitchen, self.with_menu(kitchen, menu))

    def test_all_dishes_turned_about(self):
        for kitchen in self.kitchens():
            self.check_same(kitchen, self.with_menu(kitchen, [~dish for dish in kitchen.menu]))

    def test_one_dish_turned_about(self):
        for dish in [PIE, ROAST, GAPS, GAPS << 2]:
            for number in (1, 2, 3):
                self.check_same(oven(number, dish), oven(number, ~dish))
        # Beside other dishes it makes a difference.
        bend = Dish("bend", [(0, "oven", 1), (1, "oven", 1), (3, "oven", 1)], first=1)
        fill = Dish("fill", [(0, "oven", 1), (2, "oven", 1), (3, "oven", 1)], second=1)
        self.assertNotEqual(region_of(oven(1, bend, fill)), region_of(oven(1, ~bend, fill)))

    def test_dishes_laid_together(self):
        for kitchen in self.kitchens():
            for dish in kitchen.menu:
                other = kitchen.with_dish(dish | kitchen.menu[0])
                self.check_same(kitchen, other)
        self.check_same(oven(2), oven(2).with_dish(PIE | (TART << 1)))
        # Alone, the two dishes together are kept up as one.
        self.assertEqual(region_of(oven(2, PIE | TART)).corners, [(0, 0, 1), (2, 1, 1)])

    def test_a_dish_twice_in_the_menu(self):
        for kitchen in self.kitchens():
            for dish in kitchen.menu:
                self.check_same(kitchen, kitchen.with_dish(dish))
            self.check_same(kitchen, self.with_menu(kitchen, kitchen.menu[::-1]))

    def test_a_dish_that_never_fits(self):
        for kitchen in self.kitchens():
            tool = kitchen.tools[0]
            dish = Dish("great", [(0, tool, kitchen.numbers[0] + 1)], first=100, second=-100)
            self.check_same(kitchen, kitchen.with_dish(dish))

    def test_tools_in_another_order(self):
        for kitchen in self.kitchens():
            tools = list(zip(kitchen.tools, kitchen.numbers))
            self.check_same(kitchen, Kitchen(tools[::-1], kitchen.menu))
            self.check_same(kitchen, Kitchen([*tools[1:], ("spare", 7), *tools[:1]], kitchen.menu))

    def test_other_worths(self):
        for kitchen in self.kitchens():
            turned = [Dish(dish.name, list(dish.needs), first=-dish.second, second=dish.first) for dish in kitchen.menu]
            corners = [(-second, first, beats) for first, second, beats in region_of(kitchen).corners]
            self.assertEqual(region_of(self.with_menu(kitchen, turned)), Region(corners))

    def test_more_dishes_and_more_tools_never_make_it_smaller(self):
        for kitchen in self.kitchens():
            region = region_of(kitchen)
            for tool in kitchen.tools:
                more = kitchen.with_number(tool, kitchen.number_of(tool) + 1)
                if graph_by_needs(more, 150):
                    self.assertLessEqual(region, region_of(more))
            self.assertLessEqual(region_of(self.with_menu(kitchen, kitchen.menu[1:])), region)

    def test_while_a_tool_is_closed(self):
        for kitchen in self.kitchens():
            region = region_of(kitchen)
            for tool in kitchen.tools:
                without = region_of(kitchen.with_number(tool, 0))
                with kitchen.closed(tool) as held:
                    self.assertEqual(region_of(held), without)
                    self.assertEqual([ring_mean(held, ring) for ring in corner_rings(held)], without.corners)
                    for ring in corner_rings(held):
                        check_ring(self, held, ring)
                    check_ring(self, held, best_ring(held, 1, 1))
                self.assertEqual(ask_closed(kitchen, tool, region_of), without)
                self.assertEqual(region_of(kitchen), region)

    def test_a_region_stays_as_it_is_when_a_tool_is_closed(self):
        kitchen = oven()
        region = region_of(kitchen)
        with kitchen.closed("oven"):
            self.assertEqual(region.corners, [(0, 0, 1), (3, 1, 2), (1, 1, 1)])
            self.assertNotEqual(region, region_of(kitchen))


class BestRingTest(unittest.TestCase):
    def check_best(self, kitchen, a, b, most, best):
        ring = best_ring(kitchen, a, b)
        check_ring(self, kitchen, ring, most)
        mean = ring_mean(kitchen, ring)
        self.assertEqual(Fraction(worth_of((a, b, 0), mean), mean[2]), best)
        # No point of the region goes further.
        totals = row_totals(kitchen, ring)
        self.assertTrue(holds(kitchen, (a * totals[2], b * totals[2], worth_of((a, b, 0), totals))))

    def test_a_small_kitchen(self):
        for a, b, mean in [(1, 0, (3, 1, 2)), (0, 1, (1, 1, 1)), (-1, 2, (1, 1, 1)), (-1, -1, (0, 0, 1))]:
            ring = best_ring(oven(), a, b)
            check_ring(self, oven(), ring)
            self.assertEqual(ring_mean(oven(), ring), mean)

    def test_by_name(self):
        self.assertEqual(ring_mean(oven(), best_ring(b=0, kitchen=oven(), a=1)), (3, 1, 2))

    def test_without_tools_and_dishes(self):
        for kitchen in (Kitchen([], []), Kitchen([("oven", 2)], [])):
            for a, b in DIRECTIONS:
                self.assertEqual(best_ring(kitchen, a, b), [()])

    def test_no_ring_of_all_goes_further(self):
        for kitchen in sample_kitchens(35, 50, 6):
            most = len(graph_by_needs(kitchen))
            means = ring_means(kitchen, legal_rows(kitchen, most))
            for a, b in DIRECTIONS:
                self.check_best(kitchen, a, b, most, farthest(means, a, b))

    def test_as_far_as_the_corners(self):
        chance = random.Random(36)
        for kitchen in named_kitchens() + large_kitchens() + random_kitchens(37, 30, 10, 60, beats=4):
            most = len(all_standings(kitchen))
            corners = region_of(kitchen).corners
            directions = [(0, 0), (chance.randint(-9, 9), chance.randint(-9, 9)), (GREAT, 0), (0, -GREAT)]
            directions += [(chance.randint(-GREAT, GREAT), chance.randint(-GREAT, GREAT)), (1 - GREAT, GREAT)]
            for a, b in directions:
                self.check_best(kitchen, a, b, most, farthest(corners, a, b))

    def test_what_is_returned_is_new(self):
        kitchen = oven()
        for a, b in [(1, 0), (0, 0), (-1, -1)]:
            ring = best_ring(kitchen, a, b)
            wanted = list(ring)
            ring[0] = (8, 8)
            ring.append((1, 2))
            self.assertEqual(best_ring(kitchen, a, b), wanted)

    def test_while_a_tool_is_closed(self):
        kitchen = range_kitchen()
        with kitchen.closed("stove"):
            self.assertEqual(best_ring(kitchen, 1, 5), [(0, 1)])
        with kitchen.closed("oven"):
            self.assertEqual(ring_mean(kitchen, best_ring(kitchen, 1, 5)), (0, 0, 1))
        self.assertEqual(ask_closed(kitchen, "stove", lambda held: best_ring(held, 1, 0)), [(0, 1)])
        self.assertEqual(ring_mean(kitchen, best_ring(kitchen, 0, 1)), (-1, 5, 1))


if __name__ == "__main__":
    unittest.main()
