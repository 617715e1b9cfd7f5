"""Point 8: the least price of wants, with a purchase."""

import itertools
import random
import time
import unittest

from packwants.least import least
from tests.helper import MOST_PRICE, AskCase, plain_covers, plain_lines, some_shop, some_shops


def plain_least(shop, want):
    """The least price by a search through all purchases that may be of use, or None."""
    found = []
    rows_sold = [(content, price) for line, content, price in plain_lines(shop)]
    # A purchase with more lines than wanted things has one that can be left out.
    for size in range(sum(want) + 1):
        for rows in itertools.combinations_with_replacement(rows_sold, size):
            content = [sum(numbers) for numbers in zip([0] * len(want), *[row[0] for row in rows])]
            if plain_covers(content, want):
                found.append(sum(price for content, price in rows))
    return min(found, default=None)


class LeastCase(AskCase):
    def check(self, price, shop, want):
        """The told purchase, once it is sure that it is one of this price as point 8 tells."""
        told = self.ask(least, shop, want)
        if price is None:
            self.assertIsNone(told)
            return None
        self.assertIsInstance(told, tuple)
        self.assertEqual(len(told), 2)
        self.assertIs(type(told[0]), int)
        self.assertEqual(told[0], price)
        self.check_purchase(shop, want, price, told[1])
        return told[1]

    def check_purchase(self, shop, want, price, purchase):
        self.assertIsInstance(purchase, list)
        known = {repr(line): (content, cost) for line, content, cost in plain_lines(shop)}
        rows = [known[repr(line)] for line in purchase]
        self.assertEqual(purchase, sorted(purchase))
        self.assertEqual(sum(cost for content, cost in rows), price)
        content = [sum(numbers) for numbers in zip([0] * len(want), *[row[0] for row in rows])]
        self.assertTrue(plain_covers(content, want))


class NoughtsTest(LeastCase):
    SHOPS = (
        [],
        [("pack", [1, 2], 0)],
        [("many", [1, 1], [(1, 0)]), ("pack", [0, 1], 5), ("add", [1, 0], 0, 1)],
    )

    def test_nothing_is_bought(self):
        for shop in self.SHOPS:
            self.told((0, []), least, shop, [0, 0])

    def test_any_number_of_things_at_the_empty_shop(self):
        for things in range(1, 5):
            self.told((0, []), least, [], [0] * things)


class NoneTest(LeastCase):
    def test_the_empty_shop(self):
        for things in range(1, 5):
            for thing in range(things):
                want = [0] * things
                want[thing] = 1
                self.told(None, least, [], want)

    def test_a_thing_in_no_offer(self):
        shop = [("pack", [1, 0, 3], 5), ("many", [2, 0, 0], [(1, 1)])]
        self.told(None, least, shop, [0, 1, 0])
        self.told(None, least, shop, [1, 1, 1])
        self.check(5, shop, [1, 0, 1])

    def test_one_thing_of_two_is_there(self):
        self.told(None, least, [("pack", [0, 9], 1)], [1, 1])
        self.told(None, least, [("pack", [9, 0], 1)], [1, 1])


class PackTest(LeastCase):
    def test_one_pack(self):
        self.told((250, [(0, 1, [])]), least, [("pack", [3, 1], 250)], [3, 1])
        self.told((250, [(0, 1, [])]), least, [("pack", [3, 1], 250)], [1, 0])

    def test_as_many_as_are_needed(self):
        for number in range(1, 10):
            packs = (number + 2) // 3
            self.told((7 * packs, [(0, 1, [])] * packs), least, [("pack", [3], 7)], [number])

    def test_the_cheaper_of_two(self):
        self.told((4, [(1, 1, [])]), least, [("pack", [2], 5), ("pack", [2], 4)], [2])
        self.told((4, [(0, 1, [])]), least, [("pack", [2], 4), ("pack", [2], 5)], [2])

    def test_a_greater_pack_may_be_cheaper(self):
        self.told((9, [(1, 1, [])]), least, [("pack", [1], 5), ("pack", [9], 9)], [2])

    def test_the_pack_with_the_best_price_each_is_not_always_best(self):
        # Two of [4] cost 16; one with one of [1] costs 13.
        shop = [("pack", [4], 8), ("pack", [1], 5)]
        self.told((13, [(0, 1, []), (1, 1, [])]), least, shop, [5])
        shop = [("pack", [5], 10), ("pack", [4], 9), ("pack", [3], 9)]
        self.told((18, [(1, 1, []), (1, 1, [])]), least, shop, [8])

    def test_things_together(self):
        shop = [("pack", [1, 0], 5), ("pack", [0, 1], 5), ("pack", [2, 2], 18)]
        self.told((10, [(0, 1, []), (1, 1, [])]), least, shop, [1, 1])
        self.told((18, [(2, 1, [])]), least, shop, [2, 2])
        self.told((15, [(0, 1, []), (0, 1, []), (1, 1, [])]), least, shop, [2, 1])
        self.told((23, [(0, 1, []), (2, 1, [])]), least, shop, [3, 2])

    def test_a_pack_of_what_is_not_wanted(self):
        self.told((5, [(1, 1, [])]), least, [("pack", [0, 1], 0), ("pack", [1, 0], 5)], [1, 0])


class AddTest(LeastCase):
    SHOP = [("pack", [1, 0], 100), ("add", [0, 2], 30, 0), ("add", [1, 0], 20, 0), ("pack", [0, 1], 50)]

    def test_a_pack_with_its_add(self):
        self.told((130, [(0, 1, [1])]), least, self.SHOP, [1, 2])
        self.told((120, [(0, 1, [2])]), least, self.SHOP, [2, 0])
        self.told((150, [(0, 1, [1, 2])]), least, self.SHOP, [2, 2])

    def test_an_add_is_not_to_be_had_alone(self):
        self.told((50, [(3, 1, [])]), least, self.SHOP, [0, 1])
        self.told((100, [(3, 1, []), (3, 1, [])]), least, self.SHOP, [0, 2])

    def test_an_add_is_to_be_had_once_with_each_pack(self):
        self.told((220, [(0, 1, []), (0, 1, [2])]), least, self.SHOP, [3, 0])
        self.told((240, [(0, 1, [2]), (0, 1, [2])]), least, self.SHOP, [4, 0])

    def test_an_add_of_nought(self):
        shop = [("pack", [1], 5), ("add", [1], 0, 0)]
        self.told((10, [(0, 1, [1]), (0, 1, [1])]), least, shop, [4])

    def test_an_add_belongs_to_its_own_pack(self):
        shop = [("pack", [1, 0], 5), ("pack", [0, 1], 50), ("add", [0, 5], 1, 1)]
        self.told((51, [(1, 1, [2])]), least, shop, [0, 3])


class ManyTest(LeastCase):
    def test_one_tier(self):
        for number in range(1, 10):
            self.check(7 * number, [("many", [1], [(1, 7)])], [number])

    def test_falling_prices_make_more_pieces_cheaper(self):
        shop = [("many", [1], [(1, 100), (6, 80)])]
        self.check(400, shop, [4])
        self.told((480, [(0, 6, [])]), least, shop, [5])
        self.told((480, [(0, 6, [])]), least, shop, [6])
        self.told((5, [(0, 1, [])]), least, [("many", [1], [(1, 5), (2, 4)])], [1])

    def test_more_pieces_than_are_wanted_may_cost_less(self):
        self.told((12, [(0, 12, [])]), least, [("many", [1], [(1, 100), (12, 1)])], [1])
        self.told((0, [(0, 12, [])]), least, [("many", [1], [(1, 1), (12, 0)])], [9])

    def test_rising_prices_make_several_lines_cheaper(self):
        shop = [("many", [1], [(1, 3), (2, 5)])]
        self.told((6, [(0, 1, []), (0, 1, [])]), least, shop, [2])
        self.told((27, [(0, 1, [])] * 9), least, shop, [9])

    def test_prices_that_rise_and_fall(self):
        shop = [("many", [1], [(1, 5), (2, 9), (4, 2), (5, 9)])]
        self.told((8, [(0, 4, [])]), least, shop, [2])
        self.told((13, [(0, 1, []), (0, 4, [])]), least, shop, [5])
        self.told((16, [(0, 4, []), (0, 4, [])]), least, shop, [7])

    def test_with_packs(self):
        shop = [("many", [0, 1], [(1, 10), (3, 6)]), ("pack", [2, 1], 20), ("add", [0, 1], 3, 1)]
        self.told((23, [(1, 1, [2])]), least, shop, [1, 2])
        self.told((33, [(0, 1, []), (1, 1, [2])]), least, shop, [2, 3])
        self.told((38, [(0, 3, []), (1, 1, [])]), least, shop, [2, 4])


class PriceTest(LeastCase):
    def test_nought(self):
        self.told((0, [(0, 1, [])]), least, [("pack", [1], 0)], [1])
        self.check(0, [("many", [1], [(1, 0)]), ("pack", [1], 0)], [9])
        self.check(0, [("pack", [1, 0], 0), ("pack", [0, 1], 0), ("pack", [1, 1], 1)], [4, 5])

    def test_twelve_figures(self):
        self.told((9 * MOST_PRICE, [(0, 1, [])] * 9), least, [("pack", [1], MOST_PRICE)], [9])
        shop = [("pack", [1], MOST_PRICE), ("pack", [1], MOST_PRICE - 1)]
        self.told((3 * MOST_PRICE - 3, [(1, 1, [])] * 3), least, shop, [3])
        shop = [("many", [1], [(1, MOST_PRICE)]), ("pack", [2], 2 * MOST_PRICE - 1)]
        self.check(3 * MOST_PRICE - 1, shop, [3])


class OrderTest(LeastCase):
    def test_by_places_counts_and_adds(self):
        shop = [
            ("many", [1, 0, 0, 0], [(1, 5), (2, 9), (4, 2), (5, 9)]),
            ("pack", [0, 1, 0, 0], 9),
            ("add", [0, 0, 1, 0], 2, 1),
            ("add", [0, 0, 0, 1], 3, 1),
            ("pack", [0, 0, 9, 9], 500),
        ]
        expected = [(0, 1, []), (0, 4, []), (1, 1, []), (1, 1, [2, 3])]
        self.told((36, expected), least, shop, [5, 2, 1, 1])
        # Told as [6] has it, [2, 3] ahead of [3], not by how many adds there are.
        self.told((26, [(1, 1, [2, 3]), (1, 1, [3])]), least, shop, [0, 2, 1, 2])

    def test_whatever_is_dear(self):
        for prices in itertools.permutations((1, 10, 100)):
            shop = [("pack", [int(at == thing) for thing in range(3)], price) for at, price in enumerate(prices)]
            self.told((111, [(0, 1, []), (1, 1, []), (2, 1, [])]), least, shop, [1, 1, 1])


class SearchTest(LeastCase):
    def test_against_all_purchases(self):
        chance = random.Random(81)
        for at in range(120):
            things = chance.randint(1, 3)
            shop = some_shop(chance, things, chance.randint(0, 3), (2, 9))
            want = [chance.randint(0, 3 - things // 2) for thing in range(things)]
            if sum(want) < 4:
                with self.subTest(shop=shop, want=want):
                    self.check(plain_least(shop, want), shop, want)

    def test_all_small_wants_of_one_shop(self):
        shop = [("pack", [2, 1], 9), ("add", [0, 2], 1, 0), ("pack", [1, 0], 4), ("pack", [1, 2], 7)]
        for want in itertools.product(range(3), repeat=2):
            self.check(plain_least(shop, list(want)), shop, list(want))

    def test_purchases_of_all_sorts_of_shops(self):
        # That none costs less is looked at with the tables of cases.
        for shop, things in some_shops(82, 60):
            want = [3, 2, 1, 1][:things]
            told = least(shop, want)
            self.check(None if told is None else told[0], shop, want)


class TimeTest(LeastCase):
    SHOPS = (
        [("many", [1 + at // 4, at % 3, at % 2, 1], [(1, 90 + at), (3, 80), (7, 95), (12, 70)]) for at in range(8)],
        [("pack", [1, 1, 1, 1], 100)] + [("add", [at % 3, at % 2, 1, at // 4], 20 + at, 0) for at in range(1, 8)],
        [("pack", [int(at % 4 == thing) for thing in range(4)], 5 + at) for at in range(8)],
    )

    def test_four_hundred_lesser_wants_and_eight_offers(self):
        for shop in self.SHOPS:
            for want in ([4, 4, 3, 3], [9, 9, 3, 0]):
                begun = time.perf_counter()
                told = least(shop, want)
                self.assertLess(time.perf_counter() - begun, 5)
                self.check_purchase(shop, want, *told)


if __name__ == "__main__":
    unittest.main()
