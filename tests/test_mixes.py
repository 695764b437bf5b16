import unittest
from fractions import Fraction
from math import gcd

from mixpace.errors import InvalidMix
from mixpace.mixes import lowest

GREAT = 10**60


class LowestTest(unittest.TestCase):
    def test_lowest_terms(self):
        cases = {
            (6, 4, 2): (3, 2, 1),
            (6, 4, 3): (6, 4, 3),
            (6, 9, 12): (2, 3, 4),
            (3, 1, 2): (3, 1, 2),
            (1, 1, 1): (1, 1, 1),
            # A divisor of two of the three numbers is not enough.
            (2, 4, 1): (2, 4, 1),
            (2, 3, 4): (2, 3, 4),
            (3, 2, 4): (3, 2, 4),
            (30, 42, 70): (15, 21, 35),
        }
        for mix, expected in cases.items():
            with self.subTest(mix):
                self.assertEqual(lowest(mix), expected)

    def test_zeros(self):
        cases = {
            (0, 0, 1): (0, 0, 1),
            (0, 0, 7): (0, 0, 1),
            (0, 4, 6): (0, 2, 3),
            (4, 0, 6): (2, 0, 3),
            (0, 5, 3): (0, 5, 3),
            (0, -9, 3): (0, -3, 1),
        }
        for mix, expected in cases.items():
            with self.subTest(mix):
                self.assertEqual(lowest(mix), expected)

    def test_negative_numbers(self):
        cases = {
            (-6, 4, 2): (-3, 2, 1),
            (6, -4, 2): (3, -2, 1),
            (-6, -9, 12): (-2, -3, 4),
            (-1, -1, 2): (-1, -1, 2),
            (-7, 0, 7): (-1, 0, 1),
        }
        for mix, expected in cases.items():
            with self.subTest(mix):
                self.assertEqual(lowest(mix), expected)

    def test_great_numbers(self):
        self.assertEqual(lowest((GREAT, -GREAT, GREAT)), (1, -1, 1))
        self.assertEqual(lowest((GREAT, GREAT - 1, GREAT)), (GREAT, GREAT - 1, GREAT))
        self.assertEqual(lowest((GREAT, -GREAT // 2, GREAT // 4)), (4, -2, 1))
        self.assertEqual(lowest((-GREAT, 3, GREAT)), (-GREAT, 3, GREAT))
        self.assertEqual(lowest((GREAT**2, GREAT**3, GREAT)), (GREAT, GREAT**2, 1))

    def test_all_small_mixes(self):
        for first in range(-6, 7):
            for second in range(-6, 7):
                for beats in range(1, 9):
                    x, y, n = lowest((first, second, beats))
                    self.assertGreater(n, 0)
                    self.assertEqual(gcd(x, y, n), 1)
                    self.assertEqual(
                        (Fraction(x, n), Fraction(y, n)), (Fraction(first, beats), Fraction(second, beats))
                    )

    def test_by_name_and_kinds(self):
        mix = lowest(mix=(2, 2, 2))
        self.assertEqual(mix, (1, 1, 1))
        self.assertEqual([type(mix)] + [type(number) for number in mix], [tuple, int, int, int])

    def test_fewer_than_one_beat(self):
        for mix in [(1, 1, 0), (0, 0, 0), (2, 4, -2), (0, 0, -1), (-3, 5, -7), (GREAT, GREAT, -GREAT), (4, 6, 0)]:
            with self.subTest(mix):
                with self.assertRaises(InvalidMix) as caught:
                    lowest(mix)
                self.assertIs(type(caught.exception.mix), tuple)
                self.assertEqual(caught.exception.mix, mix)


if __name__ == "__main__":
    unittest.main()
