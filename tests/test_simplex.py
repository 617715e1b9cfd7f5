"""The reckoning behind points 10 and 11: fractions, and the greatest worth under limits."""

import unittest

from packwants.ratios import common_divisor, lowest, over_one_bottom
from packwants.simplex import greatest
from tests.helper import AskCase


class RatiosTest(AskCase):
    def test_common_divisor(self):
        for number, other, expected in ((12, 18, 6), (18, 12, 6), (7, 5, 1), (0, 4, 4), (4, 0, 4), (9, 9, 9)):
            self.told(expected, common_divisor, number, other)

    def test_lowest(self):
        self.told((2, 3), lowest, 4, 6)
        self.told((2, 3), lowest, 2, 3)
        self.told((0, 1), lowest, 0, 12)
        self.told((5, 1), lowest, 5 * 10 ** 30, 10 ** 30)

    def test_over_one_bottom(self):
        self.told(([], 1), over_one_bottom, [])
        self.told(([3, 2], 6), over_one_bottom, [(1, 2), (1, 3)])
        self.told(([3, 10, -4], 12), over_one_bottom, [(1, 4), (5, 6), (-1, 3)])


class GreatestTest(AskCase):
    def test_no_limits(self):
        self.told((0, [0, 0], [], 1), greatest, [0, 0], [])

    def test_two_limits(self):
        self.told((25, [15, 10], [2, 1], 5), greatest, [1, 1], [([2, 1], 8), ([1, 3], 9)])

    def test_a_limit_that_is_not_reached(self):
        self.told((4, [4, 0], [1, 0], 1), greatest, [1, 0], [([1, 0], 4), ([1, 1], 5)])

    def test_steps_that_might_go_round_in_a_ring(self):
        # Chvatal's example: without a rule for what is alike the same tableau comes again and again.
        limits = [([1, -11, -5, 18], 0), ([1, -3, -1, 2], 0), ([1, 0, 0, 0], 1)]
        worth, amounts, shares, bottom = self.ask(greatest, [10, -57, -9, -24], limits)
        self.assertEqual(worth, bottom)
        self.assertEqual(amounts, [bottom, 0, bottom, 0])
        for thing, weight in enumerate([10, -57, -9, -24]):
            have = sum(numbers[thing] * share for (numbers, most), share in zip(limits, shares))
            self.assertGreaterEqual(have, weight * bottom)
        self.assertEqual(shares[2], bottom)


if __name__ == "__main__":
    unittest.main()
