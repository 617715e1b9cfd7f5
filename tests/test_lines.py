"""Point 6: lines, their order, their contents and prices."""

import itertools
import unittest

from packwants.shops import line_content, line_price, lines
from tests.helper import MOST_PRICE, AskCase


def pack():
    return ("pack", [1, 0], 100)


def add(place):
    return ("add", [0, 2], 30, place)


def many():
    return ("many", [0, 1], [(1, 10)])


class LinesTest(AskCase):
    def test_the_empty_shop(self):
        self.told([], lines, [])

    def test_a_pack_alone(self):
        self.told([(0, 1, [])], lines, [pack()])

    def test_one_add(self):
        self.told([(0, 1, []), (0, 1, [1])], lines, [pack(), add(0)])

    def test_two_adds(self):
        expected = [(0, 1, []), (0, 1, [1]), (0, 1, [1, 2]), (0, 1, [2])]
        self.told(expected, lines, [pack(), add(0), add(0)])

    def test_three_adds(self):
        adds = [[], [1], [1, 2], [1, 2, 3], [1, 3], [2], [2, 3], [3]]
        expected = [(0, 1, chosen) for chosen in adds]
        self.told(expected, lines, [pack(), add(0), add(0), add(0)])

    def test_seven_adds(self):
        told = self.ask(lines, [pack()] + [add(0)] * 7)
        chosen = [list(some) for size in range(8) for some in itertools.combinations(range(1, 8), size)]
        self.assertEqual(told, [(0, 1, adds) for adds in sorted(chosen)])
        self.assertEqual(len(told), 128)

    def test_a_many_has_twelve_counts(self):
        self.told([(0, count, []) for count in range(1, 13)], lines, [many()])

    def test_a_many_with_a_tier_from_twelve(self):
        shop = [("many", [1], [(1, 5), (12, 1)])]
        self.told([(0, count, []) for count in range(1, 13)], lines, shop)

    def test_adds_of_two_packs_mixed(self):
        shop = [pack(), pack(), add(1), add(0), add(1), add(0)]
        expected = [
            (0, 1, []), (0, 1, [3]), (0, 1, [3, 5]), (0, 1, [5]),
            (1, 1, []), (1, 1, [2]), (1, 1, [2, 4]), (1, 1, [4]),
        ]
        self.told(expected, lines, shop)

    def test_by_places(self):
        shop = [pack(), many(), add(0), pack(), many()]
        expected = [(0, 1, []), (0, 1, [2])]
        expected += [(1, count, []) for count in range(1, 13)]
        expected += [(3, 1, [])]
        expected += [(4, count, []) for count in range(1, 13)]
        self.told(expected, lines, shop)

    def test_packs_that_are_alike_have_lines_of_their_own(self):
        self.told([(0, 1, []), (1, 1, [])], lines, [pack(), pack()])

    def test_in_order(self):
        shop = [many(), pack(), add(1), many(), add(1), pack(), add(5), add(1)]
        told = self.ask(lines, shop)
        self.assertEqual(told, sorted(told))
        self.assertEqual(len(told), 12 + 8 + 12 + 2)

    def test_changing_one_changes_no_other(self):
        shop = [pack(), add(0), add(0), many()]
        told = lines(shop)
        for at, line in enumerate(told):
            line[2].append(99)
            self.assertEqual(sum(one[2].count(99) for one in told), at + 1)
        self.assertEqual(lines(shop)[0], (0, 1, []))


class ContentTest(AskCase):
    SHOP = [
        ("pack", [1, 0, 3, 9], 250),
        ("add", [2, 0, 0, 8], 30, 0),
        ("many", [0, 1, 2, 0], [(1, 10), (6, 8)]),
        ("add", [0, 5, 0, 9], 7, 0),
        ("pack", [0, 0, 0, 1], 0),
        ("add", [1, 1, 1, 1], 4, 4),
    ]

    def check(self, expected, line):
        self.told(expected, line_content, self.SHOP, line)

    def test_without_adds(self):
        self.check([1, 0, 3, 9], (0, 1, []))
        self.check([0, 0, 0, 1], (4, 1, []))

    def test_with_one_add(self):
        self.check([3, 0, 3, 17], (0, 1, [1]))
        self.check([1, 5, 3, 18], (0, 1, [3]))
        self.check([1, 1, 1, 2], (4, 1, [5]))

    def test_with_several_adds_past_nine(self):
        self.check([3, 5, 3, 26], (0, 1, [1, 3]))

    def test_each_count_of_a_many(self):
        for count in range(1, 13):
            self.check([0, count, 2 * count, 0], (2, count, []))

    def test_seven_adds(self):
        shop = [("pack", [9], 1)] + [("add", [9], 1, 0) for at in range(7)]
        self.told([72], line_content, shop, (0, 1, [1, 2, 3, 4, 5, 6, 7]))

    def test_twelve_of_nine(self):
        self.told([108], line_content, [("many", [9], [(1, 1)])], (0, 12, []))


class PriceTest(AskCase):
    def test_a_pack_without_adds(self):
        self.told(250, line_price, [("pack", [1], 250), ("add", [1], 30, 0)], (0, 1, []))

    def test_with_adds(self):
        shop = [("pack", [1], 250), ("add", [1], 30, 0), ("pack", [1], 1000), ("add", [2], 4, 0)]
        self.told(280, line_price, shop, (0, 1, [1]))
        self.told(254, line_price, shop, (0, 1, [3]))
        self.told(284, line_price, shop, (0, 1, [1, 3]))
        self.told(1000, line_price, shop, (2, 1, []))

    def test_nought_and_twelve_figures(self):
        shop = [("pack", [1], 0), ("add", [1], 0, 0), ("add", [1], MOST_PRICE, 0), ("pack", [1], MOST_PRICE)]
        self.told(0, line_price, shop, (0, 1, []))
        self.told(0, line_price, shop, (0, 1, [1]))
        self.told(MOST_PRICE, line_price, shop, (0, 1, [1, 2]))
        self.told(MOST_PRICE, line_price, shop, (3, 1, []))

    def check_counts(self, tiers, each):
        for count in range(1, 13):
            shop = [("many", [1], list(tiers))]
            self.told(count * each[count - 1], line_price, shop, (0, count, []))

    def test_one_tier(self):
        self.check_counts([(1, 7)], [7] * 12)

    def test_falling_prices(self):
        self.check_counts([(1, 100), (6, 80)], [100] * 5 + [80] * 7)
        self.check_counts([(1, 9), (2, 7), (11, 5), (12, 3)], [9] + [7] * 9 + [5, 3])

    def test_rising_prices(self):
        self.check_counts([(1, 3), (2, 5), (11, 7), (12, 9)], [3] + [5] * 9 + [7, 9])

    def test_prices_that_rise_and_fall(self):
        self.check_counts([(1, 5), (3, 9), (4, 0), (10, 6)], [5, 5, 9] + [0] * 6 + [6] * 3)

    def test_a_greater_count_may_cost_less(self):
        shop = [("many", [1], [(1, 100), (12, 1)])]
        self.assertEqual([line_price(shop, (0, count, [])) for count in (11, 12)], [1100, 12])

    def test_twelve_figures_each(self):
        self.check_counts([(1, 0), (12, MOST_PRICE)], [0] * 11 + [MOST_PRICE])

    def test_the_line_s_own_many(self):
        shop = [("many", [1], [(1, 2)]), ("pack", [1], 50), ("many", [1], [(1, 3), (4, 1)])]
        self.told(8, line_price, shop, (0, 4, []))
        self.told(4, line_price, shop, (2, 4, []))
        self.told(9, line_price, shop, (2, 3, []))


if __name__ == "__main__":
    unittest.main()
