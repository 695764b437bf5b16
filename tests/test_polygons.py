import random
import unittest
from fractions import Fraction
from itertools import combinations_with_replacement, permutations
from math import gcd

from mixpace.errors import Barred, EmptyRegion, InvalidMix
from mixpace.polygons import Region

GREAT = 10**60
EXAMPLE = [(1, 1, 1), (0, 0, 7), (6, 2, 4), (5, 3, 4)]
SQUARE = [(0, 0, 1), (2, 0, 1), (2, 2, 1), (0, 2, 1)]
SEGMENT = [(-1, 0, 1), (1, 1, 1)]
POINT = [(3, -2, 4)]
# All ways in which two corners can lie to each other; the first corner comes first in each.
TWO_CORNERS = [
    [(0, 0, 1), (2, 0, 1)],
    [(0, 0, 1), (3, 2, 1)],
    [(0, 0, 1), (3, -2, 1)],
    [(1, -2, 1), (1, 5, 1)],
    [(-1, 3, 2), (1, 1, 3)],
    [(-7, -5, 3), (-1, -1, 2)],
]
INVALID_MIXES = [(0, 0, 0), (1, 1, 0), (0, 0, -1), (2, 2, -2), (100, -100, -1), (GREAT, GREAT, -GREAT)]


def point(mix):
    return (Fraction(mix[0], mix[2]), Fraction(mix[1], mix[2]))


def turn(p, q, r):
    return (q[0] - p[0]) * (r[1] - p[1]) - (q[1] - p[1]) * (r[0] - p[0])


def is_in_triangle(target, p, q, r):
    turns = [turn(p, q, target), turn(q, r, target), turn(r, p, target)]
    within = all(min(p[k], q[k], r[k]) <= target[k] <= max(p[k], q[k], r[k]) for k in (0, 1))
    return within and (min(turns) >= 0 or max(turns) <= 0)


def is_within(target, points):
    """Tells whether the target lies in a triangle of the points, which may also be a segment or a point."""
    return any(is_in_triangle(target, *three) for three in combinations_with_replacement(points, 3))


def random_mixes(chance, most=7, size=4, beats=3):
    many = chance.randint(1, most)
    return [
        (chance.randint(-size, size), chance.randint(-size, size), chance.randint(1, beats)) for _ in range(many)
    ]


def great_mixes(chance, many):
    numbers = [[chance.randint(-GREAT, GREAT) for _ in range(2)] for _ in range(many)]
    return [(first, second, chance.randint(1, GREAT)) for first, second in numbers]


def sample_regions(seed, many):
    """Lists of mixes: points, segments and polygons, with points in one line and equal ones among them."""
    chance = random.Random(seed)
    lists = [EXAMPLE, SQUARE, SEGMENT, POINT, *TWO_CORNERS]
    while len(lists) < many:
        mixes = random_mixes(chance)
        mixes += [tuple(number * 3 for number in mix) for mix in chance.sample(mixes, len(mixes) // 2)]
        lists.append(mixes)
    return lists


class RegionTest(unittest.TestCase):
    def check_invalid_mix(self, mix, question):
        with self.assertRaises(InvalidMix) as caught:
            question()
        self.assertEqual(caught.exception.mix, mix)


class CornersTest(RegionTest):
    def check(self, mixes):
        """Checks the corners against the point's definition in the document."""
        corners = Region(mixes).corners
        points = sorted({point(mix) for mix in mixes})
        expected = [one for one in points if not is_within(one, [other for other in points if other != one])]
        self.assertEqual(sorted(map(point, corners)), sorted(expected))
        for mix in corners:
            self.assertEqual((type(mix), gcd(*mix)), (tuple, 1))
        found = list(map(point, corners))
        self.assertEqual(found[0], points[0])
        if len(found) > 2:
            for p, q in zip(found, found[1:] + found[:1]):
                self.assertTrue(all(turn(p, q, r) > 0 for r in found if r not in (p, q)))

    def test_points(self):
        for mix, corner in {
            (0, 0, 1): (0, 0, 1),
            (0, 0, 9): (0, 0, 1),
            (4, -6, 8): (2, -3, 4),
            (-3, 0, 3): (-1, 0, 1),
            (5, 7, 1): (5, 7, 1),
        }.items():
            self.assertEqual(Region([mix]).corners, [corner])
            self.assertEqual(Region([mix] * 4).corners, [corner])

    def test_equal_points_in_different_terms(self):
        self.assertEqual(Region([(2, 4, 6), (1, 2, 3), (5, 10, 15)]).corners, [(1, 2, 3)])
        self.assertEqual(Region([(2, 2, 2), (0, 0, 3), (1, 1, 1), (0, 0, 1)]).corners, [(0, 0, 1), (1, 1, 1)])
        mixes = SQUARE + [tuple(5 * number for number in mix) for mix in SQUARE]
        self.assertEqual(Region(mixes).corners, SQUARE)

    def test_segments(self):
        for corners in TWO_CORNERS:
            with self.subTest(corners):
                self.assertEqual(Region(corners).corners, corners)
                self.assertEqual(Region(corners[::-1]).corners, corners)

    def test_points_in_one_line(self):
        self.assertEqual(Region([(k, 2 * k, 3) for k in (2, 0, 5, -1, 3)]).corners, [(-1, -2, 3), (5, 10, 3)])
        self.assertEqual(Region([(0, k, 1) for k in (2, 0, 5, -1, 3)]).corners, [(0, -1, 1), (0, 5, 1)])
        self.assertEqual(Region([(k, 7, 7) for k in (2, 0, 5, -1, 3)]).corners, [(-1, 7, 7), (5, 7, 7)])
        self.assertEqual(Region([(k, -k, 1) for k in (2, 0, 5, -1, 3)]).corners, [(-1, 1, 1), (5, -5, 1)])

    def test_points_on_the_border_and_inside_are_no_corners(self):
        inside = [(1, 1, 1), (1, 0, 1), (2, 1, 1), (1, 2, 1), (0, 1, 1), (1, 1, 2), (3, 0, 2), (3, 4, 2), (0, 2, 7)]
        self.assertEqual(Region(inside + SQUARE + inside).corners, SQUARE)

    def test_polygons_in_any_order_of_the_mixes(self):
        mixes = [(0, 0, 1), (3, 1, 2), (1, 1, 1), (1, 1, 2), (2, 2, 4)]
        for some in permutations(mixes):
            self.assertEqual(Region(list(some)).corners, [(0, 0, 1), (3, 1, 2), (1, 1, 1)])
        for some in permutations(SQUARE):
            self.assertEqual(Region(list(some)).corners, SQUARE)

    def test_the_first_corner(self):
        # Of the corners with the least x it is the one with the least y, whatever the sums and the terms.
        self.assertEqual(Region([(-1, 5, 1), (-3, -2, 3), (0, -9, 1)]).corners[0], (-3, -2, 3))
        self.assertEqual(Region([(1, 0, 3), (1, 0, 2), (1, 1, 1)]).corners, [(1, 0, 3), (1, 0, 2), (1, 1, 1)])
        self.assertEqual(Region([(0, 3, 1), (0, 1, 1), (0, 2, 1), (1, -5, 1)]).corners[0], (0, 1, 1))
        self.assertEqual(Region([(-9, 0, 10), (-1, 0, 1), (-8, 1, 9)]).corners[0], (-1, 0, 1))

    def test_many_corners(self):
        # On a parabola all points are corners.
        mixes = [(k, k * k, 1) for k in range(60)]
        self.assertEqual(Region(mixes).corners, mixes)
        self.assertEqual(Region(mixes[::-1]).corners, mixes)
        random.Random(1).shuffle(mixes)
        self.assertEqual(Region(mixes).corners, sorted(mixes))
        around = [(3, 4), (5, 0), (4, 3), (0, 5)]
        circle = {(x * a, y * b, 5) for x, y in around for a in (-1, 1) for b in (-1, 1)}
        expected = [(-1, 0, 1), (-4, -3, 5), (-3, -4, 5), (0, -1, 1), (3, -4, 5), (4, -3, 5)]
        expected += [(1, 0, 1), (4, 3, 5), (3, 4, 5), (0, 1, 1), (-3, 4, 5), (-4, 3, 5)]
        self.assertEqual(Region(list(circle)).corners, expected)

    def test_great_numbers(self):
        # The third point is above the diagonal by less than a float can tell.
        mixes = [(0, 0, 1), (1, 1, 1), (GREAT - 1, GREAT, GREAT), (GREAT - 2, GREAT - 2, GREAT - 1)]
        expected = [(0, 0, 1), (1, 1, 1), (GREAT - 1, GREAT, GREAT)]
        for some in permutations(mixes):
            self.assertEqual(Region(list(some)).corners, expected)
        self.assertEqual(Region([(GREAT, 1, GREAT - 1), (GREAT - 1, 1, GREAT - 2)]).corners[0], (GREAT, 1, GREAT - 1))
        chance = random.Random(2)
        for _ in range(10):
            self.check(great_mixes(chance, 6))

    def test_against_the_definition(self):
        for mixes in sample_regions(3, 250):
            with self.subTest(mixes):
                self.check(mixes)

    def test_no_mixes(self):
        with self.assertRaises(EmptyRegion) as caught:
            Region([])
        self.assertEqual(vars(caught.exception), {})

    def test_the_first_invalid_mix(self):
        for mix in INVALID_MIXES:
            with self.subTest(mix):
                self.check_invalid_mix(mix, lambda: Region([mix]))
                self.check_invalid_mix(mix, lambda: Region([mix, *SQUARE]))
                self.check_invalid_mix(mix, lambda: Region([*SQUARE, mix]))
                self.check_invalid_mix(mix, lambda: Region([*SQUARE, mix, (7, 8, 0), (0, 1, -3)]))
                self.check_invalid_mix((7, 8, 0), lambda: Region([(7, 8, 0), mix]))

    def test_the_list_of_mixes_is_copied_and_left_alone(self):
        mixes = list(EXAMPLE)
        region = Region(mixes=mixes)
        self.assertEqual(mixes, EXAMPLE)
        mixes.append((100, 100, 1))
        mixes[0] = (-100, 0, 1)
        self.assertEqual(region.corners, [(0, 0, 1), (3, 1, 2), (1, 1, 1)])
        self.assertIs((5, 5, 1) in region, False)

    def test_returned_lists_are_new_ones(self):
        region = Region(EXAMPLE)
        corners, sides, weights = region.corners, region.sides, region.weights((5, 3, 4))
        before = [list(corners), list(sides), list(weights)]
        for one in (corners, sides, weights):
            self.assertIs(type(one), list)
            one.reverse()
            one.pop()
        self.assertEqual([region.corners, region.sides, region.weights((5, 3, 4))], before)
        self.assertIsNone(region.bar((5, 3, 4)))

    def test_what_the_interface_lists_is_defined_in_the_class(self):
        for name in ["corners", "sides"]:
            self.assertIsInstance(vars(Region)[name], property)
        for name in ["__contains__", "__le__", "__eq__", "bar", "weights"]:
            self.assertIn(name, vars(Region))


class SidesTest(RegionTest):
    def check(self, mixes):
        """Checks the sides against what the document says of them, given the corners."""
        region = Region(mixes)
        corners, sides = region.corners, region.sides
        many = len(corners)
        touched = [{k, (k + 1) - many * ((k + 1) // many)} for k in range(many)]
        if many <= 2:
            touched = [[{0}] * 4, [{0, 1}, {1}, {0, 1}, {0}]][many - 1]
            self.check_directions(corners, sides)
        self.assertEqual(len(sides), len(touched))
        for (a, b, c), expected in zip(sides, touched):
            self.assertEqual(gcd(a, b, c), 1)
            self.assertNotEqual((a, b), (0, 0))
            distances = [c * n - a * x - b * y for x, y, n in corners]
            self.assertGreaterEqual(min(distances), 0)
            self.assertEqual({k for k, distance in enumerate(distances) if distance == 0}, expected)

    def check_directions(self, corners, sides):
        p, q = point(corners[0]), point(corners[-1])
        u, v = (1, 0) if p == q else (q[0] - p[0], q[1] - p[1])
        for (a, b, _), (across, along) in zip(sides, [(v, -u), (u, v), (-v, u), (-u, -v)]):
            self.assertEqual(a * along, b * across)
            self.assertGreater(a * across + b * along, 0)

    def test_three_corners(self):
        self.assertEqual(Region(EXAMPLE).sides, [(1, -3, 0), (1, 1, 2), (-1, 1, 0)])

    def test_four_corners(self):
        self.assertEqual(Region(SQUARE).sides, [(0, -1, 0), (1, 0, 2), (0, 1, 2), (-1, 0, 0)])
        shifted = [(-1, -1, 2), (3, -1, 2), (3, 1, 1), (-1, 2, 2)]
        self.assertEqual(Region(shifted).sides, [(0, -2, 1), (1, -1, 2), (0, 1, 1), (-2, 0, 1)])
        turned = [(0, 0, 1), (1, -1, 1), (2, 0, 1), (1, 1, 1)]
        self.assertEqual(Region(turned).sides, [(-1, -1, 0), (1, -1, 2), (1, 1, 2), (-1, 1, 0)])

    def test_two_corners(self):
        expected = [
            [(0, -1, 0), (1, 0, 2), (0, 1, 0), (-1, 0, 0)],
            [(2, -3, 0), (3, 2, 13), (-2, 3, 0), (-3, -2, 0)],
            [(-2, -3, 0), (3, -2, 13), (2, 3, 0), (-3, 2, 0)],
            [(1, 0, 1), (0, 1, 5), (-1, 0, -1), (0, -1, 2)],
        ]
        for corners, sides in zip(TWO_CORNERS, expected):
            with self.subTest(corners):
                self.assertEqual(Region(corners).sides, sides)
                self.assertEqual(Region(corners[::-1]).sides, sides)

    def test_two_corners_with_fractions(self):
        # From (-1/2, 3/2) to (1/3, 1/3): the direction is that of (5, -7).
        self.assertEqual(
            Region(TWO_CORNERS[4]).sides, [(-7, -5, -4), (15, -21, -2), (7, 5, 4), (-5, 7, 13)]
        )

    def test_one_corner(self):
        self.assertEqual(Region([(0, 0, 5)]).sides, [(0, -1, 0), (1, 0, 0), (0, 1, 0), (-1, 0, 0)])
        self.assertEqual(Region([(3, 5, 1)]).sides, [(0, -1, -5), (1, 0, 3), (0, 1, 5), (-1, 0, -3)])
        self.assertEqual(Region(POINT).sides, [(0, -2, 1), (4, 0, 3), (0, 2, -1), (-4, 0, -3)])

    def test_no_common_divisor(self):
        self.assertEqual(Region([(0, 0, 1), (6, 0, 1), (0, 6, 1)]).sides, [(0, -1, 0), (1, 1, 6), (-1, 0, 0)])
        # All three numbers count: (2, 2, 1) stays, and so does (0, 2, 1).
        self.assertEqual(Region([(0, 0, 1), (1, 0, 2), (0, 1, 2)]).sides, [(0, -1, 0), (2, 2, 1), (-1, 0, 0)])
        self.assertEqual(Region([(0, 1, 2), (4, 1, 2)]).sides, [(0, -2, -1), (1, 0, 2), (0, 2, 1), (-1, 0, 0)])

    def test_against_the_document(self):
        for mixes in sample_regions(4, 300):
            with self.subTest(mixes):
                self.check(mixes)

    def test_great_numbers(self):
        self.assertEqual(Region([(GREAT, 0, 1), (0, 0, 1), (0, GREAT, 1)]).sides[1], (1, 1, GREAT))
        self.assertEqual(
            Region([(0, 0, 1), (1, 0, GREAT), (0, 1, GREAT)]).sides, [(0, -1, 0), (GREAT, GREAT, 1), (-1, 0, 0)]
        )
        chance = random.Random(5)
        for many in [1, 2, 3, 4, 5, 6] * 3:
            self.check(great_mixes(chance, many))

    def test_many_corners(self):
        sides = Region([(k, k * k, 1) for k in range(60)]).sides
        self.assertEqual(sides[:59], [(2 * k + 1, -1, k * (k + 1)) for k in range(59)])
        self.assertEqual(sides[59], (-59, 1, 0))


class ContainsTest(RegionTest):
    def check(self, mixes, inside, outside):
        region = Region(mixes)
        for mix in inside:
            with self.subTest(mix):
                self.assertIs(mix in region, True)
                self.assertIs(mix not in region, False)
        for mix in outside:
            with self.subTest(mix):
                self.assertIs(mix in region, False)
                self.assertIs(mix not in region, True)

    def test_polygons_with_their_border(self):
        self.check(
            SQUARE,
            SQUARE + [(1, 1, 1), (1, 0, 1), (2, 1, 1), (1, 2, 1), (0, 1, 1), (1, 1, 1000), (1999, 1999, 1000)],
            [(-1, 0, 1), (0, -1, 1), (3, 1, 1), (1, 3, 1)]
            + [(-1, 1, 1000), (1, -1, 1000), (2001, 5, 1000), (5, 2001, 1000)],
        )
        self.check(
            EXAMPLE,
            [(0, 0, 1), (3, 1, 2), (1, 1, 1), (5, 3, 4), (3, 1, 3), (1, 1, 2), (1, 1, 5), (2, 1, 2)],
            [(3, 1, 1), (299, 99, 200), (6, 4, 4), (2, 2, 1), (-1, -1, 1), (0, 1, 1), (1, 0, 1)]
            + [(301, 100, 200), (100, 101, 200)],
        )

    def test_segments(self):
        self.check(
            SEGMENT,
            [(-1, 0, 1), (1, 1, 1), (0, 1, 2), (2, 5, 8), (-998, 1, 1000)],
            [(-3, -1, 1), (3, 2, 1), (0, 0, 1), (0, 1, 1), (-1, 1, 1), (1, 0, 1), (1002, 1001, 1000), (0, 501, 1000)],
        )
        self.check([(1, -2, 1), (1, 5, 1)], [(1, 0, 1), (2, 10, 2)], [(1, 6, 1), (1, -3, 1), (2, 0, 1), (0, 0, 1)])
        self.check([(0, 3, 1), (4, 3, 1)], [(1, 3, 1), (8, 6, 2)], [(-1, 3, 1), (5, 3, 1), (1, 2, 1), (1, 4, 1)])

    def test_points(self):
        beside = [(0, 0, 1), (3, -2, 5), (4, -2, 4), (2, -2, 4), (3, -1, 4), (3, -3, 4)]
        self.check(POINT, [(3, -2, 4), (6, -4, 8)], beside)
        self.check([(0, 0, 4)], [(0, 0, 1), (0, 0, 9)], [(1, 0, 9), (0, 1, 9), (-1, 0, 9), (0, -1, 9), (1, 1, 1)])

    def test_mixes_that_are_not_in_lowest_terms(self):
        for factor in (1, 2, 3, 10, GREAT):
            outside = [(3 * factor, factor, factor), (factor, 0, 9 * factor)]
            self.check(EXAMPLE, [(3 * factor, factor, 2 * factor)], outside)

    def test_great_numbers(self):
        mixes = [(0, 0, 1), (2, 0, GREAT), (0, 2, GREAT)]
        outside = [(1, 1, GREAT - 1), (2, 0, GREAT - 1), (-1, 0, GREAT)]
        self.check(mixes, [(1, 1, GREAT), (0, 0, GREAT), (2, 0, GREAT)], outside)
        mixes = [(0, 0, 1), (GREAT, 0, 1), (0, GREAT, 1)]
        self.check(mixes, [(GREAT - 1, 1, 1), (1, GREAT - 1, 1), (GREAT, 0, 1)], [(GREAT, 1, 1), (2, GREAT - 1, 1)])
        outside = [(GREAT - 1, GREAT - 2, GREAT), (GREAT, GREAT, GREAT - 1)]
        self.check([(0, 0, 1), (1, 1, 1)], [(GREAT - 1, GREAT - 1, GREAT)], outside)

    def test_against_triangles(self):
        chance = random.Random(6)
        found = {True: 0, False: 0}
        for mixes in sample_regions(7, 100):
            region, points = Region(mixes), sorted({point(mix) for mix in mixes})
            asked = mixes + random_mixes(chance, most=12, size=3, beats=4)
            for p, q in zip(mixes, mixes[1:]):
                asked.append((p[0] * q[2] + q[0] * p[2], p[1] * q[2] + q[1] * p[2], 2 * p[2] * q[2]))
            for mix in asked:
                expected = is_within(point(mix), points)
                self.assertIs(mix in region, expected)
                self.assertIs(region.bar(mix) is None, expected)
                found[expected] += 1
        self.assertGreater(min(found.values()), 200)

    def test_invalid_mixes(self):
        for mixes in [SQUARE, SEGMENT, POINT, [(0, 0, 1)]]:
            region = Region(mixes)
            for mix in INVALID_MIXES:
                self.check_invalid_mix(mix, lambda: mix in region)
                self.check_invalid_mix(mix, lambda: mix not in region)


class BarTest(RegionTest):
    def test_mixes_of_the_region(self):
        for mix in SQUARE + [(1, 1, 1), (1, 0, 1), (5, 10, 5)]:
            self.assertIsNone(Region(SQUARE).bar(mix))
        for mixes in sample_regions(8, 60):
            for mix in mixes:
                self.assertIsNone(Region(mixes).bar(mix))

    def test_one_side_bars(self):
        region = Region(SQUARE)
        self.assertEqual(region.bar((1, -1, 1)), (0, -1, 0))
        self.assertEqual(region.bar((3, 1, 1)), (1, 0, 2))
        self.assertEqual(region.bar((1, 3, 1)), (0, 1, 2))
        self.assertEqual(region.bar((-1, 1, 1)), (-1, 0, 0))
        self.assertEqual(region.bar(mix=(21, 1, 10)), (1, 0, 2))

    def test_the_first_side_counts(self):
        region = Region(SQUARE)
        self.assertEqual(region.bar((3, -1, 1)), (0, -1, 0))
        self.assertEqual(region.bar((-1, -1, 1)), (0, -1, 0))
        self.assertEqual(region.bar((3, 3, 1)), (1, 0, 2))
        self.assertEqual(region.bar((-1, 3, 1)), (0, 1, 2))
        # The farthest side is not the first one.
        self.assertEqual(region.bar((90, -1, 1)), (0, -1, 0))

    def test_segments_and_points(self):
        region = Region([(0, 0, 1), (2, 0, 1)])
        self.assertEqual(region.bar((1, -1, 9)), (0, -1, 0))
        self.assertEqual(region.bar((5, 0, 2)), (1, 0, 2))
        self.assertEqual(region.bar((5, 1, 2)), (1, 0, 2))
        self.assertEqual(region.bar((1, 1, 9)), (0, 1, 0))
        self.assertEqual(region.bar((-1, 1, 2)), (0, 1, 0))
        self.assertEqual(region.bar((-1, 0, 2)), (-1, 0, 0))
        region = Region(POINT)
        self.assertEqual(region.bar((0, -1, 1)), (0, -2, 1))
        self.assertEqual(region.bar((1, 0, 1)), (4, 0, 3))
        self.assertEqual(region.bar((0, 0, 1)), (0, 2, -1))
        self.assertEqual(region.bar((0, -2, 4)), (-4, 0, -3))

    def test_it_is_one_of_the_sides(self):
        chance = random.Random(9)
        for mixes in sample_regions(10, 100):
            region = Region(mixes)
            for mix in random_mixes(chance, most=12):
                x, y, n = mix
                barring = [(a, b, c) for a, b, c in region.sides if a * x + b * y > c * n]
                self.assertEqual(region.bar(mix), barring[0] if barring else None)

    def test_invalid_mixes(self):
        for mixes in [SQUARE, SEGMENT, POINT]:
            for mix in INVALID_MIXES:
                self.check_invalid_mix(mix, lambda: Region(mixes).bar(mix))


class WeightsTest(RegionTest):
    def check(self, region, mix):
        """Checks the weights against what the document says of them."""
        weights, corners = region.weights(mix), region.corners
        self.assertIn(len(weights), (1, 2, 3))
        indexes = [index for index, _ in weights]
        self.assertEqual(indexes, sorted(set(indexes)))
        self.assertTrue(0 <= indexes[0] and indexes[-1] < len(corners))
        numbers = [weight for _, weight in weights]
        self.assertGreaterEqual(min(numbers), 1)
        self.assertEqual(gcd(*numbers), 1)
        self.assertEqual([type(pair) for pair in weights], [tuple] * len(weights))
        for k in (0, 1):
            mean = sum(weight * point(corners[index])[k] for index, weight in weights) / sum(numbers)
            self.assertEqual(mean, point(mix)[k])

    def test_corners_alone(self):
        for mixes in [SQUARE, EXAMPLE, SEGMENT, POINT, *TWO_CORNERS]:
            region = Region(mixes)
            for index, (x, y, n) in enumerate(region.corners):
                for factor in (1, 6):
                    self.assertEqual(region.weights((x * factor, y * factor, n * factor)), [(index, 1)])

    def test_a_triangle_has_one_answer(self):
        region = Region(EXAMPLE)
        self.assertEqual(region.weights((5, 3, 4)), [(1, 1), (2, 1)])
        self.assertEqual(region.weights((1, 1, 2)), [(0, 1), (2, 1)])
        self.assertEqual(region.weights((3, 1, 4)), [(0, 1), (1, 1)])
        self.assertEqual(region.weights((5, 3, 6)), [(0, 1), (1, 1), (2, 1)])
        self.assertEqual(region.weights(mix=(10, 6, 12)), [(0, 1), (1, 1), (2, 1)])
        self.assertEqual(region.weights((7, 5, 8)), [(0, 1), (1, 1), (2, 2)])

    def test_the_beats_of_a_corner_do_not_count(self):
        # Weights belong to points: the middle is the middle, whatever the terms.
        self.assertEqual(Region([(0, 0, 1), (1, 0, 5)]).weights((1, 0, 10)), [(0, 1), (1, 1)])
        self.assertEqual(Region([(0, 1, 7), (0, 1, 2)]).weights((0, 9, 28)), [(0, 1), (1, 1)])
        self.assertEqual(
            Region([(0, 0, 1), (1, 0, 5), (0, 1, 3)]).weights((3, 5, 45)), [(0, 1), (1, 1), (2, 1)]
        )

    def test_segments(self):
        region = Region([(0, 0, 1), (3, 6, 1)])
        self.assertEqual(region.weights((1, 2, 1)), [(0, 2), (1, 1)])
        self.assertEqual(region.weights((2, 4, 1)), [(0, 1), (1, 2)])
        self.assertEqual(region.weights((3, 6, 2)), [(0, 1), (1, 1)])
        upright = Region([(2, -1, 1), (2, 4, 1)])
        self.assertEqual(upright.weights((2, 0, 1)), [(0, 4), (1, 1)])
        self.assertEqual(upright.weights((8, 12, 4)), [(0, 1), (1, 4)])
        falling = Region([(0, 0, 1), (1, -1, 1)])
        self.assertEqual(falling.weights((1, -1, 3)), [(0, 2), (1, 1)])

    def test_all_mixes_of_a_square(self):
        region = Region(SQUARE)
        for beats in (1, 2, 3, 5):
            for first in range(2 * beats + 1):
                for second in range(2 * beats + 1):
                    self.check(region, (first, second, beats))

    def test_the_smallest_triangles(self):
        region = Region([(0, 0, 1), (1, 0, 1), (1, 1, 1), (0, 1, 1)])
        self.assertEqual(region.weights((0, 1, 1)), [(3, 1)])
        for beats in (1, 2, 3, 4):
            for first in range(beats + 1):
                for second in range(beats + 1):
                    self.check(region, (first, second, beats))

    def test_the_same_question_gives_the_same_answer(self):
        region = Region(SQUARE)
        for mix in [(1, 1, 1), (1, 1, 2), (3, 1, 2), (0, 1, 1), (5, 7, 4)]:
            answers = [region.weights(mix) for _ in range(3)] + [Region(SQUARE).weights(mix)]
            self.assertEqual(answers, answers[:1] * 4)

    def test_mixes_inside_on_sides_and_between_corners(self):
        chance = random.Random(11)
        for mixes in sample_regions(12, 200):
            region = Region(mixes)
            for _ in range(8):
                some = [chance.choice(mixes) for _ in range(3)]
                shares = [chance.randint(1, 4) for _ in some]
                x, y = [sum(share * point(mix)[k] for share, mix in zip(shares, some)) / sum(shares) for k in (0, 1)]
                beats = x.denominator * y.denominator * chance.randint(1, 2)
                self.check(region, (int(x * beats), int(y * beats), beats))

    def test_many_corners(self):
        region = Region([(k, k * k, 1) for k in range(60)])
        for k in range(1, 58):
            self.check(region, (k, k * k, 1))
            self.check(region, (2 * k + 1, 2 * k * k + 2 * k + 1, 2))
            self.check(region, (k, 59 * k, 1))
            self.check(region, (k, k * k + 1, 1))

    def test_great_numbers(self):
        chance = random.Random(13)
        for many in [1, 2, 3, 4, 6] * 3:
            some = great_mixes(chance, many)
            region = Region(some)
            for mix in some:
                self.check(region, mix)
            self.check(region, tuple(map(sum, zip(*some))))
        region = Region([(0, 0, 1), (1, 0, 1), (0, 1, 1)])
        self.assertEqual(region.weights((1, 1, GREAT)), [(0, GREAT - 2), (1, 1), (2, 1)])
        self.assertEqual(region.weights((GREAT - 1, 1, GREAT)), [(1, GREAT - 1), (2, 1)])

    def test_mixes_that_do_not_belong_to_the_region(self):
        for mixes, mix, side in [
            (SQUARE, (3, 3, 1), (1, 0, 2)),
            (SQUARE, (-1, 3, 1), (0, 1, 2)),
            (EXAMPLE, (2, 1, 1), (1, 1, 2)),
            ([(0, 0, 1), (2, 0, 1)], (5, 0, 2), (1, 0, 2)),
            ([(0, 0, 1), (2, 0, 1)], (-1, 1, 2), (0, 1, 0)),
            (POINT, (0, 0, 1), (0, 2, -1)),
        ]:
            with self.subTest(mixes=mixes, mix=mix):
                with self.assertRaises(Barred) as caught:
                    Region(mixes).weights(mix)
                self.assertEqual(caught.exception.side, side)

    def test_invalid_mixes_come_before_barred_ones(self):
        for mixes in [SQUARE, SEGMENT, POINT]:
            for mix in INVALID_MIXES + [(9, 9, 0), (-9, 9, -1)]:
                self.check_invalid_mix(mix, lambda: Region(mixes).weights(mix))


class CompareTest(RegionTest):
    def check_less(self, mixes, other, expected):
        with self.subTest(mixes=mixes, other=other):
            self.assertIs(Region(mixes) <= Region(other), expected)

    def test_less(self):
        inner = [(1, 1, 2), (3, 1, 2), (1, 1, 1)]
        self.check_less(inner, SQUARE, True)
        self.check_less(SQUARE, inner, False)
        self.check_less(SQUARE, SQUARE, True)
        self.check_less(SQUARE[::-1], SQUARE + [(1, 1, 1)], True)

    def test_less_on_the_border(self):
        self.check_less([(1, 0, 1), (2, 1, 1), (1, 2, 1), (0, 1, 1)], SQUARE, True)
        self.check_less([(0, 0, 1), (2, 0, 1)], SQUARE, True)
        self.check_less([(2, 2, 1)], SQUARE, True)
        self.check_less([(5, 10, 5)], SQUARE, True)

    def test_not_less_for_any_corner_outside(self):
        for mix in [(-1, 1, 9), (1, -1, 9), (19, 1, 9), (1, 19, 9)]:
            for at in range(4):
                mixes = SQUARE[:at] + [mix] + SQUARE[at + 1:]
                self.check_less(mixes, SQUARE, False)
        self.check_less([(-1, -1, 1), (3, -1, 1), (3, 3, 1), (-1, 3, 1)], SQUARE, False)
        self.check_less([(5, 5, 1), (6, 5, 1), (5, 6, 1)], SQUARE, False)

    def test_neither_is_less(self):
        shifted = [(x + 1, y + 1, n) for x, y, n in SQUARE]
        self.check_less(shifted, SQUARE, False)
        self.check_less(SQUARE, shifted, False)

    def test_less_for_segments_and_points(self):
        self.check_less([(0, 1, 2)], SEGMENT, True)
        self.check_less([(0, 1, 2), (1, 1, 1)], SEGMENT, True)
        self.check_less(SEGMENT, [(0, 1, 2)], False)
        self.check_less([(0, 1, 2), (3, 2, 1)], SEGMENT, False)
        self.check_less([(0, 1, 2), (0, 2, 3)], SEGMENT, False)
        self.check_less(POINT, POINT, True)
        self.check_less(POINT, [(3, -2, 5)], False)
        self.check_less(SQUARE, SEGMENT, False)
        self.check_less(SQUARE, [(1, 1, 1)], False)

    def test_less_against_triangles(self):
        lists = sample_regions(14, 60)
        found = {True: 0, False: 0}
        for mixes in lists:
            for other in lists[:20]:
                expected = all(is_within(point(mix), sorted({point(one) for one in other})) for mix in mixes)
                self.assertIs(Region(mixes) <= Region(other), expected)
                found[expected] += 1
        self.assertGreater(min(found.values()), 20)

    def test_equal(self):
        for mixes in [SQUARE, SEGMENT, POINT, EXAMPLE]:
            region = Region(mixes)
            others = [mixes, mixes[::-1], mixes * 2, [tuple(7 * number for number in mix) for mix in mixes]]
            # The sums stand for a point between the mixes.
            others.append([tuple(map(sum, zip(*mixes))), *mixes])
            for other in others:
                self.assertIs(region == Region(other), True)
                self.assertIs(region != Region(other), False)
            self.assertIs(region == region, True)

    def test_not_equal(self):
        lists = [SQUARE, SQUARE[:3], SQUARE[1:], SQUARE + [(3, 1, 1)], EXAMPLE]
        lists += [SEGMENT, SEGMENT[:1], POINT, [(3, -2, 5)]]
        for at, mixes in enumerate(lists):
            for other in lists[:at] + lists[at + 1:]:
                self.assertIs(Region(mixes) == Region(other), False)
                self.assertIs(Region(mixes) != Region(other), True)

    def test_things_that_are_no_region(self):
        class LookAlike:
            def __init__(self, region):
                self.corners, self.sides = region.corners, region.sides
                vars(self).update(vars(region))

        class EqualToAll:
            def __eq__(self, other):
                return True

        for mixes in [SQUARE, POINT, [(0, 0, 1)]]:
            region = Region(mixes)
            things = [None, 0, True, "region", (), [], {}, mixes, mixes[0], Region]
            things += [region.corners, tuple(region.corners), region.sides, LookAlike(region), EqualToAll()]
            for thing in things:
                with self.subTest(thing):
                    self.assertIs(region == thing, False)
                    self.assertIs(region != thing, True)


if __name__ == "__main__":
    unittest.main()
