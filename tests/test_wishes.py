import random
import unittest
from itertools import islice

from mixpace.dishes import Dish
from mixpace.errors import Barred, InvalidMix, UnknownTool
from mixpace.kitchens import Kitchen, ask_closed
from mixpace.mixes import lowest
from mixpace.polygons import Region
from mixpace.regions import region_of
from mixpace.rows import first_lack, ring_mean, row_totals
from mixpace.standings import all_standings
from mixpace.wishes import least_number, parting_mix, plan, region_while_closed, shares
from tests.samples import (
    GREAT,
    LOSS,
    PIE,
    ROAST,
    TART,
    check_ring,
    divisor_of,
    error_of,
    graph_by_needs,
    large_kitchens,
    named_kitchens,
    oven,
    random_kitchens,
    range_kitchen,
)

INVALID_MIXES = [(0, 0, 0), (1, 1, 0), (0, 0, -1), (2, 2, -2), (100, -100, -1), (GREAT, GREAT, -GREAT)]


def middle_of(mixes, weights):
    """The weighted mean of mixes, as a mix."""
    beats = 1
    for mix in mixes:
        beats *= mix[2]
    return (
        sum(weight * mix[0] * (beats // mix[2]) for mix, weight in zip(mixes, weights)),
        sum(weight * mix[1] * (beats // mix[2]) for mix, weight in zip(mixes, weights)),
        sum(weights) * beats,
    )


def kept_mixes(chance, kitchen):
    """Mixes at the corners, on the sides and inside of the kitchen's region; many are not in lowest terms."""
    corners = region_of(kitchen).corners
    mixes = [*corners, (0, 0, 7), tuple(6 * number for number in corners[-1])]
    for corner, after in zip(corners, corners[1:] + corners[:1]):
        mixes.append(middle_of([corner, after], [chance.randint(1, 9), chance.randint(1, 9)]))
    for _ in range(3):
        mixes.append(middle_of(corners, [chance.randint(0, 9) for _ in corners[1:]] + [1]))
    mixes.append(middle_of(corners, [chance.randint(1, GREAT) for _ in corners]))
    return mixes


def mixes_just_outside(kitchen):
    """Pairs of a mix and the first side that bars it."""
    region = region_of(kitchen)
    for a, b, c in region.sides:
        corner = next(corner for corner in region.corners if a * corner[0] + b * corner[1] == c * corner[2])
        for far in (1, 1000, GREAT):
            mix = (far * corner[0] + a, far * corner[1] + b, far * corner[2])
            first = next(side for side in region.sides if side[0] * mix[0] + side[1] * mix[1] > side[2] * mix[2])
            yield mix, first


class SharesTest(unittest.TestCase):
    def check_shares(self, kitchen, mix, most=None, corners=None):
        pairs = shares(kitchen, mix)
        corners = corners or region_of(kitchen).corners
        self.assertIs(type(pairs), list)
        self.assertEqual({type(pair) for pair in pairs}, {tuple})
        self.assertTrue(1 <= len(pairs) <= 3)
        for ring, times in pairs:
            check_ring(self, kitchen, ring, most)
            self.assertIs(type(times), int)
            self.assertGreaterEqual(times, 1)
            self.assertIn(ring_mean(kitchen, ring), corners)
        self.assertEqual(len({ring_mean(kitchen, ring) for ring, _ in pairs}), len(pairs))
        self.assertEqual(divisor_of([times for _, times in pairs]), 1)
        totals = [[times * number for number in row_totals(kitchen, ring)] for ring, times in pairs]
        self.assertEqual(lowest(tuple(map(sum, zip(*totals)))), lowest(mix))
        return pairs

    def test_a_small_kitchen(self):
        kitchen = oven()
        self.assertEqual(self.check_shares(kitchen, (0, 0, 1)), [([(0, 0)], 1)])
        self.assertEqual(self.check_shares(kitchen, (GREAT, GREAT, GREAT)), [([(0, 1)], 1)])
        self.assertEqual([times for _, times in self.check_shares(kitchen, (3, 1, 2))], [1])
        self.assertEqual(self.check_shares(kitchen, (4, 4, 7)), [([(0, 0)], 3), ([(0, 1)], 4)])
        # The ring of pies has two windows: playing it once is as long as playing that of tarts twice.
        ring_of_pies = shares(kitchen, (3, 1, 2))[0][0]
        self.assertEqual(len(ring_of_pies), 2)
        self.assertEqual(self.check_shares(kitchen, (5, 3, 4)), [(ring_of_pies, 1), ([(0, 1)], 2)])
        self.assertEqual(
            self.check_shares(kitchen, (5, 3, 5)), [([(0, 0)], 1), (ring_of_pies, 1), ([(0, 1)], 2)]
        )
        self.assertEqual(self.check_shares(kitchen, (30, 10, 30)), [([(0, 0)], 1), (ring_of_pies, 1)])

    def test_rings_of_several_lengths(self):
        kitchen = oven(1, PIE, Dish("long", [(beat, "oven", 1) for beat in range(3)], first=-4, second=3))
        self.check_shares(kitchen, (-1, 4, 10))
        pairs = self.check_shares(kitchen, middle_of(region_of(kitchen).corners, [1, 1, 1]))
        self.assertEqual(sorted(len(ring) * times for ring, times in pairs), [6, 6, 6])

    def test_points_and_segments(self):
        for kitchen in (Kitchen([], []), Kitchen([("oven", 4)], []), oven(0)):
            self.assertEqual(shares(kitchen, (0, 0, 12)), [([(0,) * len(kitchen.menu)], 1)])
        segment = oven(2, LOSS, Dish("gain", [(0, "oven", 1)], first=2, second=1))
        self.assertEqual(self.check_shares(segment, (-2, -1, 3)), [([(2, 0)], 7), ([(0, 2)], 5)])
        self.assertEqual(self.check_shares(segment, (0, 0, 3)), [([(2, 0)], 1), ([(0, 2)], 1)])
        self.assertEqual(self.check_shares(segment, (4, 2, 1)), [([(0, 2)], 1)])

    def test_mixes_that_are_kept(self):
        chance = random.Random(41)
        for kitchen in named_kitchens() + random_kitchens(42, 40, 2, 40):
            most = len(graph_by_needs(kitchen))
            for mix in kept_mixes(chance, kitchen):
                self.check_shares(kitchen, mix, most)

    def test_large_kitchens(self):
        chance = random.Random(43)
        for kitchen in large_kitchens():
            most, corners = len(all_standings(kitchen)), region_of(kitchen).corners
            for mix in kept_mixes(chance, kitchen)[::2]:
                self.check_shares(kitchen, mix, most, corners)

    def test_barred_with_the_first_side(self):
        for kitchen in named_kitchens() + random_kitchens(44, 20, 2, 40) + large_kitchens()[:2]:
            for mix, side in mixes_just_outside(kitchen):
                self.assertEqual(error_of(self, Barred, lambda: shares(kitchen, mix)), {"side": side})

    def test_by_a_hair(self):
        kitchen = oven()
        self.check_shares(kitchen, (3 * GREAT, GREAT, 2 * GREAT))
        self.check_shares(kitchen, (3 * GREAT - 3, GREAT - 1, 2 * GREAT))
        for mix, side in [
            ((3 * GREAT + 1, GREAT, 2 * GREAT), (1, -3, 0)),
            ((3 * GREAT, GREAT, 2 * GREAT - 1), (1, 1, 2)),
            ((GREAT - 1, GREAT, GREAT), (-1, 1, 0)),
        ]:
            self.assertEqual(error_of(self, Barred, lambda: shares(kitchen, mix)), {"side": side})

    def test_invalid_mix_comes_before_barred(self):
        for kitchen in (oven(), Kitchen([], [])):
            for mix in INVALID_MIXES:
                self.assertEqual(error_of(self, InvalidMix, lambda: shares(kitchen, mix)), {"mix": mix})

    def test_by_name(self):
        self.assertEqual(shares(mix=(0, 0, 3), kitchen=oven()), [([(0, 0)], 1)])
        self.assertEqual(error_of(self, Barred, lambda: shares(mix=(2, 1, 1), kitchen=oven())), {"side": (1, 1, 2)})

    def test_what_is_returned_is_new(self):
        kitchen = oven()
        pairs = shares(kitchen, (5, 3, 4))
        wanted = [(list(ring), times) for ring, times in pairs]
        pairs[0][0].clear()
        pairs[1][0][0] = (7, 7)
        pairs.append(None)
        self.assertEqual(shares(kitchen, (5, 3, 4)), wanted)

    def test_while_a_tool_is_closed(self):
        kitchen = range_kitchen()
        with kitchen.closed("stove"):
            self.assertEqual(self.check_shares(kitchen, (1, 1, 3)), [([(0, 0)], 2), ([(0, 1)], 1)])
            self.assertEqual(error_of(self, Barred, lambda: shares(kitchen, (-1, 5, 1))), {"side": (1, 1, 2)})
            self.assertEqual(error_of(self, Barred, lambda: shares(kitchen, (-5, 5, 1))), {"side": (-1, 1, 0)})
            self.assertEqual(error_of(self, InvalidMix, lambda: shares(kitchen, (0, 0, 0))), {"mix": (0, 0, 0)})
        self.assertEqual(ask_closed(kitchen, "pot", lambda held: len(shares(held, (-1, 5, 1)))), 1)
        self.check_shares(kitchen, (-1, 5, 1))


class PlanTest(unittest.TestCase):
    def check_plan(self, kitchen, mix, blocks):
        """Compares the plan with the shares, window by window."""
        pause = [(0,) * len(kitchen.menu)] * (kitchen.horizon - 1)
        wanted = []
        for block in range(1, blocks + 1):
            for ring, times in shares(kitchen, mix):
                wanted += ring * (block * times) + pause
        row = list(plan(kitchen, mix, blocks))
        self.assertEqual(row, wanted)
        self.assertEqual({type(window) for window in row} - {tuple}, set())
        self.assertIsNone(first_lack(kitchen, row))
        return row

    def test_a_small_kitchen(self):
        kitchen = oven()
        self.assertEqual(list(plan(kitchen, (0, 0, 1), 2)), [(0, 0)] * 5)
        one, two = shares(kitchen, (3, 1, 2))[0][0]
        self.assertEqual(list(plan(kitchen, (3, 1, 2), 2)), [one, two, (0, 0)] + [one, two] * 2 + [(0, 0)])
        self.assertEqual(
            list(plan(kitchen, (5, 3, 4), 2)),
            [one, two, (0, 0), (0, 1), (0, 1), (0, 0)] + [one, two] * 2 + [(0, 0)] + [(0, 1)] * 4 + [(0, 0)],
        )

    def test_without_a_pause_if_the_horizon_is_1(self):
        self.assertEqual(list(plan(oven(2, TART), (2, 2, 1), 3)), [(2,)] * 6)
        self.assertEqual(list(plan(Kitchen([], []), (0, 0, 5), 4)), [()] * 10)
        row = [(0,)] * 2 + [(1,)] + [(0,)] * 4 + [(1,)] * 2
        self.assertEqual(list(plan(oven(1, TART), (1, 1, 3), 2)), row)

    def test_the_horizon_counts_needs_of_dishes_that_never_fit(self):
        kitchen = oven(1, TART, ROAST)
        self.assertEqual(list(plan(kitchen, (1, 1, 1), 2)), [(1, 0), (0, 0), (0, 0), (1, 0), (1, 0), (0, 0), (0, 0)])

    def test_plans_follow_the_shares(self):
        chance = random.Random(51)
        for kitchen in named_kitchens() + random_kitchens(52, 20, 3, 20):
            for mix in kept_mixes(chance, kitchen)[:-4]:
                if sum(len(ring) * times for ring, times in shares(kitchen, mix)) < 300:
                    self.check_plan(kitchen, mix, chance.randint(0, 3))

    def test_the_mean_tends_to_the_mix(self):
        kitchen = oven(2, PIE, TART, LOSS)
        first, second, beats = 1, 1, 3
        row = self.check_plan(kitchen, (first, second, beats), 12)
        totals = row_totals(kitchen, row)
        # Each block lacks only what the pauses take.
        self.assertLessEqual(abs(totals[0] * beats - first * totals[2]), 12 * 3 * 3)
        self.assertLessEqual(abs(totals[1] * beats - second * totals[2]), 12 * 3 * 3)

    def test_more_blocks_only_add_windows(self):
        kitchen = oven()
        row = list(plan(kitchen, (5, 3, 5), 12))
        for blocks in range(12):
            part = list(plan(kitchen, (5, 3, 5), blocks))
            self.assertEqual(part, row[: len(part)])
            self.assertLess(len(part), len(row))

    def test_no_blocks(self):
        for kitchen in named_kitchens():
            self.assertEqual(list(plan(kitchen, (0, 0, 2), 0)), [])

    def test_it_yields_windows_one_by_one(self):
        # The plan has more windows than could be listed.
        mix = (GREAT + 1, GREAT - 1, 2 * GREAT)
        kitchen = oven()
        ring, times = shares(kitchen, mix)[0]
        self.assertGreater(times, 10**50)
        started = plan(kitchen, mix, 12)
        self.assertIs(iter(started), started)
        self.assertEqual(list(islice(started, 1000)), (ring * 1000)[:1000])
        self.assertEqual(next(started), ring[1000 % len(ring)])

    def test_left_early_and_iterated_twice(self):
        kitchen = oven()
        wanted = list(plan(kitchen, (5, 3, 4), 3))
        one, two = plan(kitchen, (5, 3, 4), 3), plan(kitchen, (5, 3, 4), 3)
        self.assertEqual([next(one), next(one), next(two)], [wanted[0], wanted[1], wanted[0]])
        one.close()
        self.assertEqual(list(one), [])
        self.assertEqual(list(two), wanted[1:])
        self.assertEqual(list(two), [])
        self.assertEqual(list(plan(kitchen, (5, 3, 4), 3)), wanted)

    def test_errors_come_when_the_iteration_begins(self):
        for blocks in (0, 1, 12):
            started = plan(oven(), (2, 1, 1), blocks)
            self.assertEqual(error_of(self, Barred, lambda: next(started)), {"side": (1, 1, 2)})
            self.assertEqual(list(started), [])
            for mix in INVALID_MIXES:
                started = plan(oven(), mix, blocks)
                self.assertEqual(error_of(self, InvalidMix, lambda: list(started)), {"mix": mix})

    def test_by_name(self):
        self.assertEqual(list(plan(blocks=1, mix=(1, 1, 1), kitchen=oven())), [(0, 1), (0, 0)])

    def test_while_a_tool_is_closed(self):
        kitchen = range_kitchen()
        with kitchen.closed("stove"):
            self.check_plan(kitchen, (1, 1, 2), 2)
            self.assertEqual(error_of(self, Barred, lambda: list(plan(kitchen, (-5, 5, 1), 0))), {"side": (-1, 1, 0)})
        row = ask_closed(kitchen, "stove", lambda held: list(plan(held, (1, 1, 1), 1)))
        self.assertEqual(row, [(0, 1)] + [(0, 0)] * 3)
        # The kitchen is asked when the iteration begins.
        started = plan(kitchen, (1, 1, 1), 1)
        with kitchen.closed("oven"):
            self.assertEqual(error_of(self, Barred, lambda: list(started)), {"side": (1, 0, 0)})


class PartingMixTest(unittest.TestCase):
    def test_the_first_corner_outside(self):
        square = Region([(0, 0, 1), (2, 0, 1), (2, 2, 1), (0, 2, 1)])
        self.assertIsNone(parting_mix(square, square))
        self.assertIsNone(parting_mix(square, Region([(0, 0, 1), (9, 0, 1), (0, 9, 1)])))
        self.assertEqual(parting_mix(square, Region([(0, 0, 1), (2, 0, 1), (0, 2, 1)])), (2, 2, 1))
        self.assertEqual(parting_mix(square, Region([(0, 0, 1), (0, 2, 1)])), (2, 0, 1))
        self.assertEqual(parting_mix(square, Region([(1, 1, 1)])), (0, 0, 1))
        self.assertEqual(parting_mix(region=Region([(3, 1, 2)]), other=square), None)
        self.assertEqual(parting_mix(other=Region([(3, 1, 2)]), region=Region([(12, 4, 8), (5, 0, 1)])), (5, 0, 1))

    def test_corners_are_in_lowest_terms(self):
        self.assertEqual(parting_mix(Region([(6, 4, 2), (0, 0, 8)]), Region([(0, 0, 1)])), (3, 2, 1))

    def test_none_if_and_only_if_the_region_is_within_the_other(self):
        chance = random.Random(61)
        within = 0
        for _ in range(400):
            region, other = [
                Region([(chance.randint(-3, 3), chance.randint(-3, 3), chance.randint(1, 3)) for _ in range(many)])
                for many in (chance.randint(1, 4), chance.randint(3, 9))
            ]
            outside = [corner for corner in region.corners if corner not in other]
            self.assertEqual(parting_mix(region, other), (outside or [None])[0])
            self.assertEqual(parting_mix(region, other) is None, region <= other)
            within += region <= other
        self.assertTrue(30 < within < 370)

    def test_regions_of_kitchens(self):
        self.assertIsNone(parting_mix(region_of(oven()), region_of(oven(2))))
        self.assertEqual(parting_mix(region_of(oven(2)), region_of(oven())), (3, 1, 1))
        great = Region([(GREAT, 1, GREAT - 1), (0, 0, 1)])
        self.assertEqual(parting_mix(great, Region([(GREAT, 1, GREAT), (0, 0, 1)])), (GREAT, 1, GREAT - 1))

    def test_nothing_is_changed(self):
        region, other = region_of(oven(2)), region_of(oven())
        corners = [region.corners, other.corners]
        parting_mix(region, other)
        self.assertEqual([region.corners, other.corners], corners)


class LeastNumberTest(unittest.TestCase):
    def test_a_small_kitchen(self):
        kitchen = oven(7)
        for mix, number in [((0, 0, 9), 0), ((1, 1, 1), 1), ((3, 1, 2), 1), ((3, 1, 1), 2), ((2, 1, 1), 2),
                            ((4, 2, 1), 3), ((5, 5, 2), 3), ((6, 6, 2), 3), ((9, 3, 2), 3)]:
            self.assertEqual(least_number(kitchen, "oven", mix), number)
        for mix in [((4, 4, 1)), (7, 6, 2), (-1, 0, 1), (GREAT, 1, 1)]:
            self.assertIsNone(least_number(kitchen, "oven", mix))

    def test_most(self):
        kitchen = oven()
        self.assertIs(least_number(kitchen, "oven", (0, 0, 1), most=0), 0)
        self.assertIsNone(least_number(kitchen, "oven", (1, 1, 1), most=0))
        for number in range(1, 9):
            mix = (number, number, 1)
            for most in range(number + 4):
                wanted = number if most >= number else None
                self.assertEqual(least_number(oven(1, TART), "oven", mix, most=most), wanted)
            self.assertEqual(least_number(oven(1, TART), "oven", mix), number if number <= 3 else None)
        self.assertEqual(least_number(oven(0, TART), "oven", (181, 181, 3), most=99), 61)
        self.assertEqual(least_number(oven(5, TART), "oven", (99, 99, 1), most=99), 99)

    def test_most_below_0(self):
        for most in (-1, -2, -1000):
            self.assertIsNone(least_number(oven(), "oven", (0, 0, 1), most=most))
            self.assertEqual(
                error_of(self, UnknownTool, lambda: least_number(oven(), "pan", (0, 0, 1), most=most)), {"tool": "pan"}
            )
            self.assertEqual(
                error_of(self, InvalidMix, lambda: least_number(oven(), "oven", (1, 0, 0), most=most)),
                {"mix": (1, 0, 0)},
            )

    def test_a_tool_that_does_not_help(self):
        kitchen = Kitchen([("oven", 1), ("spare", 1000)], [PIE, TART])
        self.assertEqual(least_number(kitchen, "spare", (1, 1, 1)), 0)
        self.assertEqual(least_number(kitchen, "spare", (1, 1, 1), most=1000), 0)
        self.assertIsNone(least_number(kitchen, "spare", (2, 2, 1), most=1000))
        self.assertIsNone(least_number(kitchen, "spare", (2, 2, 1)))

    def test_other_tools_keep_their_numbers(self):
        kitchen = range_kitchen()
        self.assertEqual(least_number(kitchen, "oven", (1, 1, 1)), 1)
        self.assertEqual(least_number(kitchen, "stove", (-1, 5, 1)), 3)
        self.assertIsNone(least_number(kitchen, "stove", (-1, 5, 1), most=2))
        self.assertEqual(kitchen.numbers, (3, 2, 1))

    def test_compared_with_the_regions_for_all_numbers(self):
        chance = random.Random(71)
        found = {}
        for kitchen in random_kitchens(72, 30, 2, 20):
            tool = chance.choice(kitchen.tools)
            if not graph_by_needs(kitchen.with_number(tool, 3), 150):
                continue
            regions = [region_of(kitchen.with_number(tool, number)) for number in range(4)]
            for region in regions:
                for corner in region.corners:
                    for mix in (corner, (corner[0], corner[1], 2 * corner[2]), (corner[0] + 1, corner[1], corner[2])):
                        for most in (1, 2, 3):
                            wanted = [number for number in range(most + 1) if mix in regions[number]] + [None]
                            number = least_number(kitchen, tool, mix, most=most)
                            self.assertEqual(number, wanted[0])
                            found[number] = True
        self.assertEqual(set(found), {0, 1, 2, 3, None})

    def test_unknown_tool_comes_before_invalid_mix(self):
        for tool in ("pan", "", "pie"):
            for mix in ((1, 1, 1), (1, 1, 0)):
                told = error_of(self, UnknownTool, lambda: least_number(oven(), tool, mix))
                self.assertEqual(told, {"tool": tool})
        for mix in INVALID_MIXES:
            self.assertEqual(error_of(self, InvalidMix, lambda: least_number(oven(), "oven", mix)), {"mix": mix})

    def test_by_name(self):
        self.assertEqual(least_number(most=5, mix=(4, 4, 1), tool="oven", kitchen=oven(0, TART)), 4)
        with self.assertRaises(TypeError):
            least_number(oven(), "oven", (1, 1, 1), 3)

    def test_while_a_tool_is_closed(self):
        kitchen = range_kitchen()
        with kitchen.closed("oven"):
            self.assertEqual(least_number(kitchen, "oven", (1, 1, 1)), 1)
            self.assertIsNone(least_number(kitchen, "stove", (1, 1, 1)))
            self.assertEqual(kitchen.numbers, (3, 2, 0))
        with kitchen.closed("stove"):
            self.assertIsNone(least_number(kitchen, "oven", (-1, 5, 1)))
            self.assertEqual(least_number(kitchen, "stove", (-1, 5, 1)), 3)
        self.assertEqual(kitchen.numbers, (3, 2, 1))


class RegionWhileClosedTest(unittest.TestCase):
    def setUp(self):
        menu = [PIE, Dish("soup", [(0, "pot", 1)], second=2), Dish("fry", [(0, "stove", 1)], first=-1)]
        self.kitchen = Kitchen([("oven", 1), ("pot", 2), ("stove", 3)], menu)

    def tearDown(self):
        self.assertEqual(self.kitchen.numbers, (1, 2, 3))

    def check(self, tools, corners):
        passed = list(tools)
        region = region_while_closed(self.kitchen, passed)
        self.assertIs(type(region), Region)
        self.assertEqual((region, passed), (Region(corners), tools))
        self.assertEqual(self.kitchen.numbers, (1, 2, 3))

    def test_tools(self):
        self.check(["oven"], [(-3, 0, 1), (0, 0, 1), (0, 4, 1), (-3, 4, 1)])
        self.check(["oven", "pot"], [(-3, 0, 1), (0, 0, 1)])
        self.check(["pot", "oven"], [(-3, 0, 1), (0, 0, 1)])
        self.check(["stove", "oven"], [(0, 0, 1), (0, 4, 1)])
        self.check(["pot", "stove"], [(0, 0, 1), (3, 1, 2)])
        self.check(["stove", "pot", "oven"], [(0, 0, 1)])

    def test_no_tool(self):
        self.check([], region_of(self.kitchen).corners)
        self.assertEqual(region_while_closed(Kitchen([], []), []).corners, [(0, 0, 1)])

    def test_a_tool_twice(self):
        self.check(["oven", "oven"], [(-3, 0, 1), (0, 0, 1), (0, 4, 1), (-3, 4, 1)])
        self.check(["oven", "pot", "oven", "oven", "pot"], [(-3, 0, 1), (0, 0, 1)])
        self.check(["stove", "pot"] * 1500, [(0, 0, 1), (3, 1, 2)])

    def test_compared_with_kitchens_without_these_tools(self):
        chance = random.Random(81)
        for kitchen in random_kitchens(82, 30, 2, 40):
            tools = [chance.choice(kitchen.tools) for _ in range(chance.randint(0, 4))]
            numbers = kitchen.numbers
            other = kitchen
            for tool in tools:
                other = other.with_number(tool, 0)
            self.assertEqual(region_while_closed(kitchen, tools), region_of(other))
            self.assertEqual(kitchen.numbers, numbers)

    def test_an_unknown_tool_at_any_place(self):
        for tools, tool in [(["pan"], "pan"), (["oven", "pan"], "pan"), (["pan", "oven", "lid"], "pan"),
                            (["oven", "oven", "lid", "pan"], "lid"), (["oven", "pot", "stove", ""], "")]:
            passed = list(tools)
            told = error_of(self, UnknownTool, lambda: region_while_closed(self.kitchen, passed))
            self.assertEqual((told, passed), ({"tool": tool}, tools))
            self.assertEqual(self.kitchen.numbers, (1, 2, 3))

    def test_within_a_block(self):
        with self.kitchen.closed("oven") as held:
            self.assertEqual(region_while_closed(held, ["pot"]).corners, [(-3, 0, 1), (0, 0, 1)])
            self.assertEqual(region_while_closed(held, ["oven", "pot"]).corners, [(-3, 0, 1), (0, 0, 1)])
            error_of(self, UnknownTool, lambda: region_while_closed(held, ["pot", "pan"]))
            self.assertEqual(held.numbers, (0, 2, 3))
        self.assertEqual(
            ask_closed(self.kitchen, "stove", lambda held: region_while_closed(held, ["pot"]).corners),
            [(0, 0, 1), (3, 1, 2)],
        )

    def test_by_name(self):
        self.assertEqual(region_while_closed(tools=["oven", "pot", "stove"], kitchen=self.kitchen), Region([(0, 0, 1)]))


if __name__ == "__main__":
    unittest.main()
