"""Points 12 and 13: packs that can be spared, and the thinned shop."""

import itertools
import unittest

from packwants.least import least
from packwants.spare import spared, thinned
from tests.helper import AskCase, plain_covers, plain_lines, some_shops, standing_alone, without


def least_without(shop, place):
    """The least price of a pack's content without it, or None."""
    told = least(without(shop, place), shop[place][1])
    return None if told is None else told[0]


def can_be_spared(shop, place):
    if place not in standing_alone(shop):
        return False
    price = least_without(shop, place)
    return price is not None and price <= shop[place][2]


class SparedTest(AskCase):
    def test_the_empty_shop(self):
        self.told([], spared, [])

    def test_one_pack_alone(self):
        self.told([], spared, [("pack", [1], 5)])
        self.told([], spared, [("pack", [1], 0)])

    def test_another_at_the_same_a_greater_and_a_lesser_price(self):
        for price, expected in ((5, [1]), (6, []), (4, [1]), (0, [1])):
            shop = [("many", [1], [(1, price)]), ("pack", [1], 5)]
            self.told([(place, [(0, 1, [])]) for place in expected], spared, shop)

    def test_a_greater_one_at_the_same_price(self):
        self.told([(0, [(1, 1, [])])], spared, [("pack", [1, 1], 5), ("pack", [1, 2], 5)])
        self.told([(1, [(0, 1, [])])], spared, [("pack", [1, 2], 5), ("pack", [1, 1], 5)])

    def test_two_by_each_other(self):
        self.told([(0, [(1, 1, [])]), (1, [(0, 1, [])])], spared, [("pack", [2], 5), ("pack", [2], 5)])

    def test_all_needed(self):
        self.told([], spared, [("pack", [1, 0], 5), ("pack", [0, 1], 5), ("pack", [1, 1], 9)])
        self.told([], spared, [("pack", [1, 0], 5), ("pack", [0, 1], 5)])

    def test_by_several_lines(self):
        shop = [("pack", [1, 0], 5), ("pack", [0, 1], 4), ("pack", [2, 1], 14)]
        self.told([(2, [(0, 1, []), (0, 1, []), (1, 1, [])])], spared, shop)
        shop = [("pack", [1, 0], 5), ("pack", [0, 1], 4), ("pack", [2, 1], 13)]
        self.told([], spared, shop)

    def test_a_purchase_that_costs_least(self):
        # The first one that comes to no more than the price is not the cheapest.
        shop = [("pack", [3], 8), ("pack", [2], 9), ("many", [1], [(1, 3), (3, 1)])]
        self.told([(0, [(2, 3, [])]), (1, [(2, 3, [])])], spared, shop)

    def test_a_pack_with_an_add_does_not_stand_alone(self):
        shop = [("pack", [1, 0], 5), ("add", [0, 1], 1, 0), ("many", [1, 1], [(1, 0)])]
        self.told([], spared, shop)
        shop = [("pack", [1, 0], 5), ("many", [1, 1], [(1, 0)])]
        self.assertEqual([place for place, purchase in self.ask(spared, shop)], [0])

    def test_many_offers_are_not_spared(self):
        self.told([], spared, [("many", [1], [(1, 5)]), ("many", [1], [(1, 5)])])

    def test_by_a_pack_with_its_add(self):
        shop = [("pack", [2, 2], 7), ("pack", [2, 0], 4), ("add", [0, 2], 3, 1)]
        self.told([(0, [(1, 1, [2])])], spared, shop)
        shop = [("pack", [2, 2], 6), ("pack", [2, 0], 4), ("add", [0, 2], 3, 1)]
        self.told([], spared, shop)

    def test_places_are_those_of_the_whole_shop(self):
        shop = [
            ("many", [0, 1], [(1, 2)]), ("pack", [2, 2], 99), ("pack", [1, 0], 4), ("add", [1, 0], 3, 2),
            ("pack", [2, 1], 99), ("pack", [9, 9], 500), ("add", [0, 9], 1, 5),
        ]
        expected = [(1, [(0, 2, []), (2, 1, [3])]), (4, [(0, 1, []), (2, 1, [3])])]
        told = self.ask(spared, shop)
        # Two lines of one piece cost as much as one line of two.
        self.assertIn(told[0], (expected[0], (1, [(0, 1, []), (0, 1, []), (2, 1, [3])])))
        self.assertEqual(told[1:], expected[1:])

    def test_a_pack_is_not_spared_by_itself(self):
        shop = [("pack", [2], 5), ("pack", [9], 50)]
        self.told([(1, [(0, 1, [])] * 5)], spared, shop)
        self.told([], spared, [("pack", [2], 5), ("pack", [9], 24)])

    def test_needed_where_nothing_else_covers(self):
        self.told([], spared, [("pack", [1, 1], 900), ("pack", [1, 0], 0)])

    def test_prices_of_nought(self):
        shop = [("pack", [1], 0), ("pack", [2], 0)]
        self.told([(0, [(1, 1, [])]), (1, [(0, 1, []), (0, 1, [])])], spared, shop)

    def test_all_sorts_of_shops(self):
        seen = 0
        for shop, things in some_shops(121, 150, 8, (2, 6)):
            told = self.ask(spared, shop)
            places = [place for place, purchase in told]
            self.assertEqual(places, [place for place in range(len(shop)) if can_be_spared(shop, place)])
            for place, purchase in told:
                self.check_purchase(shop, place, purchase)
            seen += len(told)
        self.assertGreater(seen, 100)

    def check_purchase(self, shop, place, purchase):
        self.assertIsInstance(purchase, list)
        self.assertEqual(purchase, sorted(purchase))
        known = {repr(line): (content, price) for line, content, price in plain_lines(shop) if line[0] != place}
        rows = [known[repr(line)] for line in purchase]
        self.assertTrue(plain_covers([sum(numbers) for numbers in zip(*[row[0] for row in rows])], shop[place][1]))
        self.assertEqual(sum(price for content, price in rows), least_without(shop, place))


class ThinnedTest(AskCase):
    def test_the_empty_shop(self):
        self.told(([], []), thinned, [])

    def test_all_needed(self):
        shop = [("pack", [1, 0], 5), ("many", [0, 1], [(1, 5), (3, 4)]), ("pack", [1, 1], 9), ("add", [1, 1], 1, 2)]
        self.told((shop, [0, 1, 2, 3]), thinned, shop)

    def test_of_two_that_spare_each_other_the_last_is_taken_out(self):
        shop = [("pack", [2], 5), ("pack", [2], 5)]
        self.told(([("pack", [2], 5)], [0]), thinned, shop)
        self.told(([("pack", [1, 2], 5)], [0]), thinned, [("pack", [1, 2], 5)] * 8)

    def test_from_the_last_to_the_first(self):
        shop = [("pack", [4], 10), ("pack", [2], 5), ("pack", [4], 10)]
        self.told(([("pack", [2], 5)], [1]), thinned, shop)
        # From the first on, the pack at 1 would be taken out and that at 2 be left.
        shop = [("pack", [1], 3), ("pack", [2], 3), ("pack", [2], 3), ("pack", [1], 3)]
        self.told(([("pack", [2], 3)], [1]), thinned, shop)

    def test_places_of_adds_are_those_of_what_is_left(self):
        shop = [
            ("pack", [1, 1], 9), ("pack", [1, 0], 4), ("add", [0, 1], 3, 1), ("pack", [2, 0], 8),
            ("pack", [0, 1], 2), ("add", [2, 0], 1, 4), ("add", [0, 5], 2, 1),
        ]
        left = [
            ("pack", [1, 0], 4), ("add", [0, 1], 3, 0), ("pack", [0, 1], 2), ("add", [2, 0], 1, 2),
            ("add", [0, 5], 2, 0),
        ]
        self.told((left, [1, 2, 4, 5, 6]), thinned, shop)

    def test_a_pack_with_an_add_stays(self):
        shop = [("pack", [1], 9), ("add", [1], 9, 0), ("pack", [2], 1), ("pack", [1], 1)]
        left = [("pack", [1], 9), ("add", [1], 9, 0), ("pack", [2], 1)]
        self.told((left, [0, 1, 2]), thinned, shop)

    def test_many_offers_stay(self):
        shop = [("many", [1], [(1, 5), (4, 3)]), ("many", [1], [(1, 5), (4, 3)]), ("pack", [4], 12)]
        self.told((shop[:2], [0, 1]), thinned, shop)

    def test_told_lists_are_the_asker_s_own(self):
        shop = [("pack", [1, 0], 5), ("add", [0, 1], 2, 0), ("many", [0, 1], [(1, 5), (4, 3)]), ("pack", [2, 0], 1)]
        told, places = thinned(shop)
        self.assertEqual(told, shop)
        for offer, other in zip(told, shop):
            self.assertIsNot(offer[1], other[1])
        self.assertIsNot(told[2][2], shop[2][2])
        told[0][1].append(7)
        told[2][2].append((5, 1))
        self.assertEqual(shop[0][1], [1, 0])
        self.assertEqual(shop[2][2], [(1, 5), (4, 3)])

    def test_offers_that_hold_one_list(self):
        content = [1, 0]
        shop = [("pack", content, 5), ("add", content, 1, 0), ("many", content, [(1, 9)])]
        told, places = thinned(shop)
        self.assertEqual(len({id(offer[1]) for offer in told}), 3)

    def test_all_sorts_of_shops(self):
        taken = 0
        for shop, things in some_shops(131, 100, 8, (2, 6)):
            left, places = self.ask(thinned, shop)
            taken += len(shop) - len(left)
            self.assertEqual((left, places), self.plain_thinned(shop))
            self.assertFalse(any(can_be_spared(left, place) for place in range(len(left))))
            self.assertEqual(spared(left), [])
            for want in itertools.product(range(3), repeat=min(things, 2)):
                want = list(want) + [1] * (things - len(want))
                self.check_least(shop, left, want)
        self.assertGreater(taken, 80)

    def check_least(self, shop, left, want):
        one = least(shop, want)
        other = least(left, want)
        self.assertEqual(one is None, other is None)
        if one is not None:
            self.assertEqual(one[0], other[0])

    def plain_thinned(self, shop):
        left = list(shop)
        places = list(range(len(shop)))
        for place in range(len(shop) - 1, -1, -1):
            if can_be_spared(left, place):
                left = without(left, place)
                del places[place]
        return left, places


if __name__ == "__main__":
    unittest.main()
