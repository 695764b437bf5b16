import random
import unittest

from mixpace.dishes import Dish
from mixpace.errors import Beaten
from mixpace.kitchens import Kitchen, ask_closed
from mixpace.papers import paper, tight_row
from mixpace.regions import region_of
from mixpace.rows import first_lack, row_totals, stretch_totals
from mixpace.standings import all_standings, empty_standing, moves
from tests.samples import (
    GREAT,
    LOSS,
    PIE,
    TART,
    check_ring,
    check_windows,
    error_of,
    farthest,
    graph_by_needs,
    large_kitchens,
    legal_rows,
    named_kitchens,
    oven,
    random_kitchens,
    range_kitchen,
    ring_means,
    sample_kitchens,
    standing_of,
    worth_of,
)

DIRECTIONS = [(1, 0), (0, 1), (-1, 0), (0, -1), (1, 1), (3, -2), (-1, 4), (-5, -7), (0, 0)]


def bounds_that_hold(kitchen, means=None):
    """Bounds in all directions: those that hold with equality, and those with some room."""
    means = means or region_of(kitchen).corners
    for a, b in DIRECTIONS:
        c = farthest(means, a, b)
        yield (a * c.denominator, b * c.denominator, c.numerator)
        for more in (0, 1, 5):
            yield (a, b, -(-c.numerator // c.denominator) + more)


def counts_of(kitchen, bound):
    counts = {index: worth_of(bound, (*dish.worths, 0)) for index, dish in enumerate(kitchen.menu)}
    counts[None] = -bound[2]
    return counts


def price_by_walks(graph, counts, at, seen):
    """The greatest sum of all walks that come to no standing twice; no other one is greater if the bound holds."""
    seen = {*seen, at}
    return max([0] + [
        counts[index] + price_by_walks(graph, counts, after, seen) for index, after in graph[at] if after not in seen
    ])


class PaperTest(unittest.TestCase):
    def check_prices(self, kitchen, bound, standings):
        """Checks that no move beats the prices, and that a sequence of moves is worth each of them."""
        counts = counts_of(kitchen, bound)
        slack, prices = paper(kitchen, bound)
        self.assertEqual(set(prices), set(standings))
        self.assertEqual({type(price) for price in prices.values()}, {int})
        self.assertGreaterEqual(min(prices.values()), 0)
        before = {standing: [] for standing in prices}
        for standing in prices:
            for index, after in moves(kitchen, standing):
                self.assertGreaterEqual(prices[standing], counts[index] + prices[after])
                if prices[standing] == counts[index] + prices[after]:
                    before[after].append(standing)
        reached = [standing for standing in prices if prices[standing] == 0]
        for standing in reached:
            reached.extend(one for one in before[standing] if one not in reached)
        self.assertEqual(set(reached), set(prices))
        self.assertIs(type(slack), int)
        self.assertEqual(slack, max(0, prices[empty_standing(kitchen)] - bound[2]))

    def test_the_prices_of_a_small_kitchen(self):
        empty, tart, pie = ((0,), (0,)), ((1,), (0,)), ((1,), (1,))
        self.assertEqual(paper(oven(), (1, 1, 2)), (2, {empty: 4, tart: 2, pie: 0}))
        self.assertEqual(paper(oven(), (0, 0, 0)), (0, {empty: 0, tart: 0, pie: 0}))
        self.assertEqual(paper(oven(), (1, 0, 2)), (1, {empty: 3, tart: 1, pie: 0}))
        self.assertEqual(paper(oven(), (2, 0, 3)), (3, {empty: 6, tart: 3, pie: 0}))
        self.assertEqual(paper(oven(), (-1, -1, 0)), (0, {empty: 0, tart: 0, pie: 0}))
        self.assertEqual(paper(oven(), (1, 0, 100)), (0, {empty: 3, tart: 0, pie: 0}))
        self.assertEqual(paper(oven(), (1, -3, 0)), (0, {empty: 0, tart: 0, pie: 0}))

    def test_the_standing_behind_the_end_of_a_row_counts(self):
        # All needs of the dish come later, so a row may be worth more than its windows alone could bear.
        self.assertEqual(paper(oven(1, TART << 3), (1, 0, 1))[0], 0)
        long = Dish("long", [(beat, "oven", 1) for beat in range(5)], first=10)
        self.assertEqual(paper(oven(1, long), (1, 0, 2))[0], 8)
        self.assertEqual(paper(oven(1, long), (1, 0, 2))[1][((0,),) * 5], 10)
        self.assertEqual(paper(oven(1, long), (1, 0, 3)), (7, paper(oven(1, long), (1, 0, 3))[1]))

    def test_without_tools_and_dishes(self):
        for kitchen, standing in [(Kitchen([], []), ((),)), (Kitchen([("oven", 2)], []), ((0,),))]:
            for bound in [(0, 0, 0), (1, -1, 0), (-5, 7, 3), (GREAT, GREAT, GREAT)]:
                self.assertEqual(paper(kitchen, bound), (0, {standing: 0}))
                self.assertEqual(tight_row(kitchen, bound), [])

    def test_by_name(self):
        self.assertEqual(paper(bound=(1, 1, 2), kitchen=oven())[0], 2)

    def test_kinds(self):
        answer = paper(oven(), (1, 1, 2))
        self.assertEqual([type(answer), type(answer[1])], [tuple, dict])

    def test_prices_of_named_kitchens(self):
        for kitchen in named_kitchens():
            standings = all_standings(kitchen)
            for bound in bounds_that_hold(kitchen):
                self.check_prices(kitchen, bound, standings)

    def test_prices_of_random_kitchens(self):
        for kitchen in random_kitchens(21, 40, 3, 40):
            standings = [standing_of(kitchen, needs) for needs in graph_by_needs(kitchen)]
            for bound in bounds_that_hold(kitchen):
                self.check_prices(kitchen, bound, standings)

    def test_prices_of_large_kitchens(self):
        for kitchen in large_kitchens():
            standings = all_standings(kitchen)
            for bound in region_of(kitchen).sides[:3]:
                self.check_prices(kitchen, bound, standings)
            self.check_prices(kitchen, (GREAT, 1 - GREAT, 10**13 * GREAT), standings)

    def test_prices_are_the_greatest_sums_over_all_sequences(self):
        for kitchen in sample_kitchens(22, 40, 8):
            graph = graph_by_needs(kitchen)
            for bound in bounds_that_hold(kitchen):
                counts = counts_of(kitchen, bound)
                wanted = {standing_of(kitchen, at): price_by_walks(graph, counts, at, set()) for at in graph}
                self.assertEqual(paper(kitchen, bound)[1], wanted)

    def test_the_slack_is_the_greatest_excess_of_legal_rows(self):
        for kitchen in sample_kitchens(23, 40, 6):
            rows = legal_rows(kitchen, len(graph_by_needs(kitchen)))
            totals = {row_totals(kitchen, row) for row in rows}
            for bound in bounds_that_hold(kitchen, ring_means(kitchen, rows)):
                self.assertEqual(paper(kitchen, bound)[0], max(worth_of(bound, one) for one in totals))

    def test_no_stretch_goes_beyond_the_slack(self):
        chance = random.Random(24)
        for kitchen in [oven(2), range_kitchen(), *random_kitchens(25, 10, 4, 40)]:
            row = random_row(chance, kitchen, 20)
            for bound in bounds_that_hold(kitchen):
                slack = paper(kitchen, bound)[0]
                for _ in range(30):
                    begin, end = chance.randint(0, 20), chance.randint(0, 20)
                    totals = stretch_totals(kitchen, row, begin, end)
                    self.assertLessEqual(worth_of(bound, totals), slack)

    def test_a_common_factor_multiplies_all(self):
        for kitchen in named_kitchens():
            for bound in bounds_that_hold(kitchen):
                slack, prices = paper(kitchen, bound)
                great = tuple(number * GREAT for number in bound)
                table = {standing: price * GREAT for standing, price in prices.items()}
                self.assertEqual(paper(kitchen, great), (slack * GREAT, table))

    def test_what_is_returned_is_new(self):
        kitchen = oven()
        prices = paper(kitchen, (1, 1, 2))[1]
        wanted = dict(prices)
        prices.clear()
        prices[((5,), (5,))] = 7
        self.assertEqual(paper(kitchen, (1, 1, 2)), (2, wanted))
        self.assertEqual(len(all_standings(kitchen)), 3)

    def test_while_a_tool_is_closed(self):
        kitchen = range_kitchen()
        with kitchen.closed("stove"):
            self.assertEqual(paper(kitchen, (1, 0, 1))[0], 0)
            self.assertEqual(len(paper(kitchen, (1, 0, 1))[1]), 2)
            self.assertEqual(error_of(self, Beaten, lambda: paper(kitchen, (0, 2, 1))), {"ring": [(0, 1)]})
        with kitchen.closed("oven"):
            self.assertEqual(paper(kitchen, (7, 7, 0)), (0, {((0, 0, 0),) * 4: 0}))
        with kitchen.closed("pot"):
            self.check_prices(kitchen, (1, 1, 4), all_standings(range_kitchen()))
        self.assertEqual(ask_closed(kitchen, "oven", lambda held: paper(held, (5, 5, 0))[0]), 0)


class BoundsTest(unittest.TestCase):
    """Which bounds hold, and the rings that beat the other ones."""

    def check_beaten(self, kitchen, bound, most=None):
        for question in (paper, tight_row):
            told = error_of(self, Beaten, lambda: question(kitchen, bound))
            self.assertEqual(list(told), ["ring"])
            check_ring(self, kitchen, told["ring"], most)
            self.assertGreater(worth_of(bound, row_totals(kitchen, told["ring"])), 0)

    def test_bounds_with_equality_and_one_less(self):
        for kitchen in named_kitchens() + random_kitchens(26, 40, 2, 40):
            most = len(graph_by_needs(kitchen))
            region = region_of(kitchen)
            for a, b, c in region.sides:
                for factor in (1, 3):
                    paper(kitchen, (factor * a, factor * b, factor * c))
                    self.check_beaten(kitchen, (factor * a, factor * b, factor * c - 1), most)

    def test_bounds_of_large_kitchens(self):
        for kitchen in large_kitchens():
            most = len(all_standings(kitchen))
            for a, b, c in region_of(kitchen).sides:
                self.assertGreaterEqual(paper(kitchen, (a, b, c))[0], 0)
                self.check_beaten(kitchen, (a, b, c - 1), most)
                self.check_beaten(kitchen, (a * GREAT, b * GREAT, c * GREAT - 1), most)

    def test_each_bound_is_decided_as_all_rings_decide_it(self):
        chance = random.Random(27)
        beaten = 0
        for kitchen in sample_kitchens(28, 40, 6):
            most = len(graph_by_needs(kitchen))
            means = ring_means(kitchen, legal_rows(kitchen, most))
            for _ in range(20):
                bound = (chance.randint(-3, 3), chance.randint(-3, 3), chance.randint(-1, 6))
                if farthest(means, bound[0], bound[1]) <= bound[2]:
                    self.assertGreaterEqual(paper(kitchen, bound)[0], 0)
                else:
                    self.check_beaten(kitchen, bound, most)
                    beaten += 1
        self.assertGreater(beaten, 100)

    def test_bounds_without_a_direction(self):
        for kitchen in named_kitchens():
            self.assertEqual(set(paper(kitchen, (0, 0, 0))[1].values()), {0})
            self.assertEqual(paper(kitchen, (0, 0, GREAT))[0], 0)
            self.check_beaten(kitchen, (0, 0, -1))
            self.check_beaten(kitchen, (0, 0, -GREAT))

    def test_no_bound_below_0_holds(self):
        for kitchen in named_kitchens():
            for a, b in DIRECTIONS:
                self.check_beaten(kitchen, (a, b, -1))

    def test_by_a_hair(self):
        kitchen = oven()
        # The greatest mean of the first worth is 3/2.
        self.assertEqual(paper(kitchen, (2 * GREAT, 0, 3 * GREAT))[0], 3 * GREAT)
        self.check_beaten(kitchen, (2 * GREAT, 0, 3 * GREAT - 1))
        self.check_beaten(kitchen, (2 * GREAT + 1, 0, 3 * GREAT + 1))
        self.assertEqual(paper(kitchen, (2 * GREAT + 1, 0, 3 * GREAT + 2))[0], 3 * GREAT + 1)

    def test_a_ring_that_is_returned_is_new(self):
        kitchen = oven()
        for question in (paper, tight_row):
            ring = error_of(self, Beaten, lambda: question(kitchen, (1, 1, 1)))["ring"]
            wanted = list(ring)
            ring[0] = (7, 7)
            ring.append((1, 1))
            self.assertEqual(error_of(self, Beaten, lambda: question(kitchen, (1, 1, 1)))["ring"], wanted)

    def test_while_a_tool_is_closed(self):
        kitchen = oven()
        self.check_beaten(kitchen, (1, 1, 1))
        with kitchen.closed("oven"):
            self.assertEqual(paper(kitchen, (1, 1, 0))[0], 0)
            self.check_beaten(kitchen, (1, 1, -1))
        self.check_beaten(kitchen, (1, 1, 1))


def random_row(chance, kitchen, windows):
    """A legal row in which as much is started as fits."""
    row = []
    while len(row) < windows:
        row.append((0,) * len(kitchen.menu))
        for _ in range(4):
            window = list(row[-1])
            window[chance.randrange(len(window))] += 1
            if first_lack(kitchen, [*row[:-1], tuple(window)]) is None:
                row[-1] = tuple(window)
    return row


class TightRowTest(unittest.TestCase):
    def check_tight(self, kitchen, bound, most):
        row = tight_row(kitchen, bound)
        check_windows(self, row)
        self.assertIsNone(first_lack(kitchen, row))
        self.assertLessEqual(len(row), most)
        self.assertEqual(worth_of(bound, row_totals(kitchen, row)), paper(kitchen, bound)[0])

    def test_rows_of_a_small_kitchen(self):
        self.assertEqual(tight_row(oven(), (1, 1, 2)), [(1, 0)])
        self.assertEqual(tight_row(bound=(0, 0, 1), kitchen=oven()), [])
        self.assertEqual(tight_row(oven(), (1, 0, 4)), [])
        self.assertEqual(tight_row(oven(3, TART), (1, 0, 3)), [])
        self.assertEqual(tight_row(oven(1, LOSS), (-1, 0, 2)), [])

    def test_a_tight_row_of_several_windows(self):
        # The oven is needed five beats later again, so a row may hold five starts that no ring can repeat.
        kitchen = oven(1, Dish("again", [(0, "oven", 1), (5, "oven", 1)], first=1))
        self.assertEqual(tight_row(kitchen, (2, 0, 1)), [(1,)] * 5)
        self.assertEqual(paper(kitchen, (2, 0, 1))[0], 5)

    def test_tight_rows(self):
        long = 0
        for kitchen in named_kitchens() + random_kitchens(29, 60, 4, 40, beats=5):
            most = len(graph_by_needs(kitchen))
            for bound in bounds_that_hold(kitchen):
                self.check_tight(kitchen, bound, most)
                long += len(tight_row(kitchen, bound)) > 2
        self.assertGreater(long, 10)

    def test_tight_rows_of_large_kitchens(self):
        for kitchen in large_kitchens():
            most = len(all_standings(kitchen))
            for a, b, c in region_of(kitchen).sides:
                self.check_tight(kitchen, (a, b, c), most)
                self.check_tight(kitchen, (a * GREAT, b * GREAT, c * GREAT + 1), most)

    def test_a_row_that_is_returned_is_new(self):
        kitchen = oven()
        row = tight_row(kitchen, (1, 1, 2))
        row[0] = (0, 0)
        row.append((0, 1))
        self.assertEqual(tight_row(kitchen, (1, 1, 2)), [(1, 0)])

    def test_while_a_tool_is_closed(self):
        kitchen = range_kitchen()
        with kitchen.closed("stove"):
            self.check_tight(kitchen, (3, 2, 5), 2)
            self.assertEqual(error_of(self, Beaten, lambda: tight_row(kitchen, (3, 2, 4))), {"ring": [(0, 1)]})
        with kitchen.closed("oven"):
            self.assertEqual(tight_row(kitchen, (3, 2, 0)), [])


if __name__ == "__main__":
    unittest.main()
