"""Point 7: purchases."""

import itertools
import unittest

from packwants.shops import bought, line_content, line_price, lines
from packwants.wants import covers
from tests.helper import AskCase


def shop():
    return [
        ("pack", [1, 0, 9], 250),
        ("add", [2, 0, 8], 30, 0),
        ("many", [0, 1, 2], [(1, 10), (6, 8)]),
        ("add", [0, 5, 9], 7, 0),
        ("pack", [0, 3, 0], 0),
    ]


class BoughtTest(AskCase):
    def test_no_lines(self):
        self.told(([0, 0, 0], 0), bought, shop(), [])
        self.told(([0], 0), bought, [("many", [4], [(1, 5)])], [])
        self.told(([0, 0, 0, 0], 0), bought, [("pack", [1, 2, 3, 4], 5)], [])

    def test_no_lines_of_an_empty_shop(self):
        self.told(([], 0), bought, [], [])

    def test_each_line_alone(self):
        for line in lines(shop()):
            expected = (line_content(shop(), line), line_price(shop(), line))
            self.told(expected, bought, shop(), [line])

    def test_several_lines(self):
        self.told(([3, 9, 29], 328), bought, shop(), [(0, 1, [1]), (2, 6, []), (4, 1, [])])
        self.told(([1, 6, 20], 267), bought, shop(), [(0, 1, [3]), (2, 1, [])])

    def test_lines_that_are_alike(self):
        self.told(([2, 0, 18], 500), bought, shop(), [(0, 1, []), (0, 1, [])])
        self.told(([9, 0, 51], 840), bought, shop(), [(0, 1, [1]) for at in range(3)])

    def test_counts_of_two_lines_do_not_join_in_a_tier(self):
        self.told(([0, 6, 12], 60), bought, shop(), [(2, 3, []), (2, 3, [])])
        self.told(([0, 6, 12], 48), bought, shop(), [(2, 6, [])])

    def test_any_order(self):
        purchase = [(0, 1, [1, 3]), (2, 7, []), (4, 1, []), (0, 1, [])]
        for ordered in itertools.permutations(purchase):
            self.told(([4, 15, 49], 593), bought, shop(), [(at, n, list(adds)) for at, n, adds in ordered])

    def test_numbers_may_grow(self):
        purchase = [(0, 12, []) for at in range(20)]
        self.told(([2160], 240 * 999999999999), bought, [("many", [9], [(1, 999999999999)])], purchase)

    def test_one_line_at_two_places_of_the_purchase(self):
        line = (0, 1, [1])
        self.assertEqual(bought(shop(), [line, line]), ([6, 0, 34], 560))
        self.assertEqual(line, (0, 1, [1]))

    def test_what_a_purchase_covers(self):
        content = bought(shop(), [(2, 6, []), (4, 1, [])])[0]
        self.assertIs(covers(content, [0, 9, 9]), True)
        self.assertIs(covers(content, [1, 0, 0]), False)
        self.assertIs(covers(bought([], [])[0], [0]), True)
        self.assertIs(covers(bought([], [])[0], [1]), False)


if __name__ == "__main__":
    unittest.main()
