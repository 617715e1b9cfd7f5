"""Points 10 and 11: fair single prices; value, prices and shares for wants."""

import itertools
import math
import random
import time
import unittest
from fractions import Fraction

from packwants.least import least
from packwants.prices import fair, single_prices
from tests.helper import MOST_PRICE, AskCase, plain_lines, some_shops


def plain_worth(numbers, prices):
    return sum(number * Fraction(*price) for number, price in zip(numbers, prices))


def plain_fair(shop, prices):
    return all(plain_worth(content, prices) <= price for line, content, price in plain_lines(shop))


class FairTest(AskCase):
    SHOP = [("pack", [3, 1], 250), ("add", [0, 2], 30, 0), ("many", [1, 0], [(1, 100), (6, 80)])]

    def check(self, expected, shop, prices):
        self.assertIs(self.ask(fair, shop, prices), expected)

    def test_a_pack_just_a_little_less_and_more(self):
        shop = [("pack", [3, 2], 10)]
        self.check(True, shop, [(2, 1), (2, 1)])
        self.check(True, shop, [(2, 1), (199, 100)])
        self.check(False, shop, [(2, 1), (201, 100)])
        self.check(True, shop, [(10, 3), (0, 1)])
        self.check(False, shop, [(10, 3), (1, 1000000)])
        self.check(False, shop, [(11, 3), (0, 1)])

    def test_fractions_that_come_to_a_whole_number(self):
        shop = [("pack", [1, 1, 1], 1)]
        self.check(True, shop, [(1, 2), (1, 3), (1, 6)])
        self.check(False, shop, [(1, 2), (1, 3), (1, 5)])
        self.check(True, shop, [(1, 2), (1, 3), (1, 7)])

    def test_a_line_with_an_add(self):
        shop = [("pack", [1, 0], 100), ("add", [0, 2], 30, 0)]
        self.check(True, shop, [(100, 1), (15, 1)])
        # An add may be dearer at the prices, where the pack makes up for it.
        self.check(True, shop, [(90, 1), (20, 1)])
        self.check(False, shop, [(90, 1), (41, 2)])
        self.check(False, shop, [(101, 1), (0, 1)])

    def test_all_adds_together(self):
        shop = [("pack", [1], 10), ("add", [1], 3, 0), ("add", [1], 2, 0)]
        self.check(True, shop, [(5, 1)])
        self.check(False, shop, [(5000001, 1000000)])

    def test_each_count_of_a_many(self):
        self.check(True, [("many", [1], [(1, 100), (6, 80)])], [(80, 1)])
        self.check(False, [("many", [1], [(1, 100), (6, 80)])], [(81, 1)])
        self.check(False, [("many", [1], [(1, 100), (12, 80)])], [(81, 1)])
        self.check(True, [("many", [1], [(1, 3), (2, 5)])], [(3, 1)])
        self.check(False, [("many", [1], [(1, 3), (2, 5)])], [(4, 1)])

    def test_each_offer(self):
        shop = [("pack", [int(at == thing) for thing in range(4)], 10 + at) for at in range(4)]
        best = [(10, 1), (11, 1), (12, 1), (13, 1)]
        self.check(True, shop, best)
        for at in range(4):
            self.check(False, shop, best[:at] + [(10 * (10 + at) + 1, 10)] + best[at + 1:])

    def test_noughts(self):
        self.check(True, self.SHOP, [(0, 1), (0, 1)])
        self.check(True, [("pack", [9, 9], 0)], [(0, 1), (0, 1)])
        self.check(False, [("pack", [9, 9], 0)], [(0, 1), (1, 10 ** 30)])
        self.check(True, [("pack", [9, 0], 0)], [(0, 1), (10 ** 30, 1)])

    def test_the_empty_shop(self):
        self.check(True, [], [(0, 1)])
        self.check(True, [], [(10 ** 30, 1), (1, 10 ** 30)])

    def test_great_tops_and_bottoms(self):
        great = 10 ** 40
        self.check(True, [("pack", [1], 1)], [(great, great)])
        self.check(True, [("pack", [1], 1)], [(great - 1, great)])
        self.check(False, [("pack", [1], 1)], [(great + 1, great)])
        shop = [("pack", [1, 1], MOST_PRICE)]
        self.check(True, shop, [(MOST_PRICE * great - 1, great), (1, great)])
        self.check(False, shop, [(MOST_PRICE * great - 1, great), (1, great - 1)])

    def test_not_in_lowest_terms(self):
        shop = [("pack", [3, 2], 10)]
        self.check(True, shop, [(4, 2), (14, 7)])
        self.check(False, shop, [(4, 2), (15, 7)])
        self.check(True, shop, [(0, 9), (500, 100)])
        self.check(True, shop, [(20, 6), (0, 4)])

    def test_by_the_words_of_the_document(self):
        chance = random.Random(101)
        seen = {True: 0, False: 0}
        for shop, things in some_shops(102, 300, 4, (3, 30)):
            prices = [(chance.randint(0, 9), chance.randint(1, 6)) for thing in range(things)]
            expected = plain_fair(shop, prices)
            seen[expected] += 1
            self.check(expected, shop, prices)
        self.assertGreater(min(seen.values()), 50)


class SingleCase(AskCase):
    def check(self, shop, want):
        """The told value, once it is sure that all that is told is as point 11 has it."""
        value, prices, shares = told = self.ask(single_prices, shop, want)
        self.assertIsInstance(told, tuple)
        self.assertIsInstance(prices, list)
        self.assertIsInstance(shares, list)
        for fraction in [value] + prices + [share for line, share in shares]:
            self.check_lowest(fraction)
        self.assertEqual(len(prices), len(want))
        self.assertTrue(all(top >= 0 for top, bottom in prices))
        self.assertTrue(plain_fair(shop, prices))
        self.assertEqual(plain_worth(want, prices), Fraction(*value))
        self.check_shares(shop, want, value, shares)
        return value

    def check_lowest(self, fraction):
        self.assertIsInstance(fraction, tuple)
        self.assertEqual([type(number) for number in fraction], [int, int])
        self.assertGreaterEqual(fraction[1], 1)
        self.assertEqual(math.gcd(*fraction), 1)

    def check_shares(self, shop, want, value, shares):
        known = {repr(line): (content, price) for line, content, price in plain_lines(shop)}
        taken = [line for line, share in shares]
        self.assertTrue(all(low < high for low, high in zip(taken, taken[1:])))
        self.assertTrue(all(isinstance(row, tuple) and len(row) == 2 for row in shares))
        self.assertTrue(all(share[0] > 0 for line, share in shares))
        rows = [known[repr(line)] for line in taken]
        for thing, number in enumerate(want):
            have = plain_worth([content[thing] for content, price in rows], [share for line, share in shares])
            self.assertGreaterEqual(have, number)
        cost = plain_worth([price for content, price in rows], [share for line, share in shares])
        self.assertEqual(cost, Fraction(*value))


class SinglePricesTest(SingleCase):
    def test_one_pack(self):
        self.told(((3, 1), [(3, 2)], [((0, 1, []), (1, 1))]), single_prices, [("pack", [2], 3)], [2])
        self.told(((3, 2), [(3, 2)], [((0, 1, []), (1, 2))]), single_prices, [("pack", [2], 3)], [1])
        self.told(((27, 2), [(3, 2)], [((0, 1, []), (9, 2))]), single_prices, [("pack", [2], 3)], [9])

    def test_two_things(self):
        shop = [("pack", [2, 1], 8), ("pack", [1, 3], 9)]
        # At 3 and 2 both packs just come to their prices.
        prices = [(3, 1), (2, 1)]
        shares = [((0, 1, []), (1, 1)), ((1, 1, []), (1, 1))]
        self.told(((17, 1), prices, shares), single_prices, shop, [3, 4])
        shares = [((0, 1, []), (2, 5)), ((1, 1, []), (1, 5))]
        self.told(((5, 1), prices, shares), single_prices, shop, [1, 1])

    def test_four_things(self):
        shop = [("pack", [int(at == thing) for thing in range(4)], 10 + at) for at in range(4)]
        expected = [(10, 1), (11, 1), (12, 1), (13, 1)]
        lines = [((at, 1, []), (at + 1, 1)) for at in range(4)]
        self.told(((120, 1), expected, lines), single_prices, shop, [1, 2, 3, 4])

    def test_with_adds(self):
        shop = [("pack", [1, 0], 100), ("add", [0, 2], 30, 0)]
        self.assertEqual(self.check(shop, [1, 2]), (130, 1))
        self.assertEqual(self.check(shop, [0, 1]), (65, 1))
        self.assertEqual(self.check(shop, [2, 1]), (215, 1))

    def test_with_many(self):
        shop = [("many", [1], [(1, 100), (6, 80)])]
        self.assertEqual(self.check(shop, [1]), (80, 1))
        self.assertEqual(self.check([("many", [1], [(1, 3), (2, 5)])], [2]), (6, 1))
        self.assertEqual(self.check([("many", [3], [(1, 9), (12, 7)])], [2]), (14, 3))

    def test_lines_in_order(self):
        shop = [("many", [1, 0, 0], [(1, 9), (12, 5)]), ("pack", [0, 1, 0], 1), ("pack", [0, 0, 1], 1)]
        expected = [((0, 12, []), (1, 12)), ((1, 1, []), (2, 1)), ((2, 1, []), (3, 1))]
        self.told(((10, 1), [(5, 1), (1, 1), (1, 1)], expected), single_prices, shop, [1, 2, 3])
        for prices in itertools.permutations((1, 10, 100)):
            shop = [("pack", [int(at != thing) for thing in range(3)], price) for at, price in enumerate(prices)]
            for want in itertools.permutations((1, 2, 3)):
                self.check(shop, list(want))

    def test_a_thing_in_no_line_that_is_not_wanted(self):
        self.assertEqual(self.check([("pack", [2, 0], 5)], [1, 0]), (5, 2))
        self.assertEqual(self.check([("pack", [0, 0, 4, 0], 5)], [0, 0, 1, 0]), (5, 4))


class NoneTest(SingleCase):
    def test_a_wanted_thing_in_no_line(self):
        shop = [("pack", [1, 0, 3], 5), ("many", [2, 0, 0], [(1, 1)])]
        self.told(None, single_prices, shop, [0, 1, 0])
        self.told(None, single_prices, shop, [3, 1, 2])
        self.check(shop, [3, 0, 2])

    def test_the_empty_shop(self):
        self.told(None, single_prices, [], [1])
        self.told(None, single_prices, [], [0, 0, 0, 1])

    def test_a_thing_that_is_in_an_add_alone(self):
        self.assertEqual(self.check([("pack", [1, 0], 7), ("add", [0, 1], 2, 0)], [0, 1]), (9, 1))

    def test_just_there(self):
        for shop, things in some_shops(111, 200, 3, (2, 9)):
            for want in itertools.product((0, 1), repeat=things):
                sold = [any(offer[1][thing] for offer in shop) for thing in range(things)]
                missing = any(number and not there for number, there in zip(want, sold))
                self.assertEqual(single_prices(shop, list(want)) is None, missing)


class NoughtsTest(SingleCase):
    def test_wants_of_noughts(self):
        shop = [("pack", [3, 1], 250), ("add", [0, 2], 30, 0), ("many", [1, 0], [(1, 100), (6, 80)])]
        self.assertEqual(self.check(shop, [0, 0]), (0, 1))
        self.assertEqual(self.check([], [0]), (0, 1))
        self.assertEqual(self.check([], [0, 0, 0, 0]), (0, 1))

    def test_prices_of_nought(self):
        self.assertEqual(self.check([("pack", [1, 1], 0)], [2, 3]), (0, 1))
        self.assertEqual(self.check([("pack", [1, 0], 0), ("pack", [1, 2], 5)], [2, 3]), (15, 2))
        shop = [("many", [1, 1, 1, 1], [(1, 0)]), ("pack", [1, 2, 3, 4], 0), ("add", [4, 3, 2, 1], 0, 1)]
        self.assertEqual(self.check(shop, [1, 2, 3, 4]), (0, 1))

    def test_an_add_of_nought(self):
        self.assertEqual(self.check([("pack", [1], 5), ("add", [1], 0, 0)], [3]), (15, 2))


class AllSortsTest(SingleCase):
    def test_small_prices(self):
        self.check_shops(some_shops(112, 200))

    def test_prices_of_twelve_figures(self):
        self.check_shops(some_shops(113, 200, 8, (9, MOST_PRICE)))
        self.assertEqual(self.check([("pack", [7], MOST_PRICE)], [1]), (142857142857, 1))
        self.assertEqual(self.check([("pack", [8], MOST_PRICE)], [9]), (9 * MOST_PRICE, 8))

    def test_many_prices_alike(self):
        self.check_shops(some_shops(114, 200, 8, (2, 1)))

    def check_shops(self, shops):
        for shop, things in shops:
            want = [2, 3, 0, 1][:things]
            if all(any(offer[1][thing] for offer in shop) for thing in range(things)):
                value = self.check(shop, want)
                # No purchase costs less than the wants at fair prices.
                self.assertGreaterEqual(least(shop, want)[0], Fraction(*value))

    def test_shops_with_all_adds_in_a_short_time(self):
        chance = random.Random(115)
        shop = [("pack", [1, 2, 3, 0], MOST_PRICE)]
        for at in range(7):
            content = [chance.randint(0, 3) for thing in range(3)] + [1]
            shop.append(("add", content, chance.randint(0, MOST_PRICE), 0))
        begun = time.perf_counter()
        self.check(shop, [4, 4, 3, 3])
        self.assertLess(time.perf_counter() - begun, 5)


if __name__ == "__main__":
    unittest.main()
