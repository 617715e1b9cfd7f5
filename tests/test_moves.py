"""Point 14: the least price as the price of a pack moves."""

import itertools
import math
import random
import time
import unittest
from fractions import Fraction

from packwants.errors import NoOffer
from packwants.least import least
from packwants.moves import moves
from tests.helper import (
    MOST_PRICE, AskCase, plain_covers, plain_left, plain_lines, some_shop, some_shops, standing_alone, without,
)


def searched_prices(shop, want, place):
    """The least price of the other lines beside each count of the pack, by a search through all purchases."""
    rows_sold = [(content, price) for line, content, price in plain_lines(shop) if line[0] != place]
    found = {}
    # Neither more lines nor more packs than wanted things are of use.
    for size in range(sum(want) + 1):
        for rows in itertools.combinations_with_replacement(rows_sold, size):
            price = sum(row[1] for row in rows)
            for count in range(sum(want) + 1):
                packs = [count * number for number in shop[place][1]]
                content = [sum(numbers) for numbers in zip(packs, *[row[0] for row in rows])]
                if plain_covers(content, want):
                    found[count] = min(price, found.get(count, price))
    return found


def reckoned_prices(shop, want, place):
    """The same, with the least price of point 8 for what is left behind each count of the pack."""
    others = without(shop, place)
    found = {}
    for count in range(sum(want) + 1):
        told = least(others, plain_left(want, [count * number for number in shop[place][1]]))
        if told is not None:
            found[count] = told[0]
    return found


def with_price(shop, place, price):
    return shop[:place] + [("pack", shop[place][1], price)] + shop[place + 1:]


def cost_at(prices, moved):
    """The least price with the pack's price at a fraction, out of those with so many of the pack."""
    return min(price + count * moved for count, price in prices.items())


def stretch_at(told, moved):
    """What the told stretches come to with the pack's price at a fraction."""
    start, counts, points = told
    cost = Fraction(start)
    begun = Fraction(0)
    for count, point in zip(counts, points + [None]):
        end = moved if point is None else min(moved, Fraction(*point))
        cost += count * (end - begun)
        begun = end
    return cost


class MovesCase(AskCase):
    def check(self, shop, want, place, prices):
        """What is told, once it is sure that it is as point 14 has it, with these least prices beside each count."""
        told = self.ask(moves, shop, want, place)
        if not prices:
            self.assertIsNone(told)
            return None
        self.check_kinds(told)
        start, counts, points = told
        ends = [Fraction(0)] + [Fraction(*point) for point in points]
        self.assertEqual(start, cost_at(prices, 0))
        for moved in self.tried(ends):
            self.assertEqual(stretch_at(told, moved), cost_at(prices, moved))
        for at, count in enumerate(counts):
            self.check_stretch(prices, count, ends[at], (ends + [ends[-1] + 1])[at + 1])
        self.assertEqual(counts[-1] == 0, 0 in prices)
        return told

    def check_kinds(self, told):
        self.assertIs(type(told), tuple)
        start, counts, points = told
        self.assertIs(type(start), int)
        self.assertIs(type(counts), list)
        self.assertIs(type(points), list)
        self.assertTrue(all(type(count) is int and count >= 0 for count in counts))
        self.assertTrue(all(high > low for high, low in zip(counts, counts[1:])))
        self.assertEqual(len(points), len(counts) - 1)
        for point in points:
            self.assertIs(type(point), tuple)
            self.assertEqual([type(number) for number in point], [int, int])
            self.assertTrue(point[0] > 0 and point[1] > 0 and math.gcd(*point) == 1)
        worth = [Fraction(*point) for point in points]
        self.assertTrue(all(low < high for low, high in zip(worth, worth[1:])))

    def tried(self, ends):
        """Nought, each point, fractions between two and beyond the last."""
        between = [(2 * low + high) / 3 for low, high in zip(ends, ends[1:])]
        return ends + between + [ends[-1] + Fraction(1, 7), 2 * ends[-1] + 1, ends[-1] + 10 ** 15]

    def check_stretch(self, prices, count, begin, end):
        """A purchase with so many of the pack costs the least price on the stretch, with none other on all of it."""
        best = [cost_at(prices, moved) for moved in (begin, end)]
        self.assertEqual([prices[count] + count * moved for moved in (begin, end)], best)
        for other in prices:
            if other != count:
                self.assertNotEqual([prices[other] + other * moved for moved in (begin, end)], best)


class PlainTest(MovesCase):
    def test_nothing_covers(self):
        self.told(None, moves, [("pack", [1, 0], 5)], [0, 1], 0)
        self.told(None, moves, [("pack", [1, 0], 5)], [3, 1], 0)
        shop = [("pack", [1, 0, 0], 5), ("many", [0, 1, 0], [(1, 2)]), ("pack", [1, 1, 0], 5)]
        self.told(None, moves, shop, [1, 1, 1], 0)
        self.told(None, moves, shop, [0, 0, 1], 2)

    def test_wants_of_noughts(self):
        self.told((0, [0], []), moves, [("pack", [1], 5)], [0], 0)
        self.told((0, [0], []), moves, [("pack", [1, 0], 0), ("pack", [1, 1], 4)], [0, 0], 1)
        self.told((0, [0], []), moves, [("many", [1, 0, 0, 0], [(1, 0)]), ("pack", [9, 0, 0, 1], 4)], [0] * 4, 1)

    def test_only_the_pack_covers(self):
        for number in range(1, 10):
            self.told((0, [(number + 1) // 2], []), moves, [("pack", [2], 5)], [number], 0)

    def test_only_with_the_pack(self):
        # Two are needed for the first thing in any case; a third one spares two of the others.
        shop = [("pack", [1, 1], 7), ("pack", [0, 1], 3)]
        self.told((0, [3, 2], [(3, 1)]), moves, shop, [2, 3], 0)
        self.told((0, [2], []), moves, shop, [2, 2], 0)
        self.told((0, [5, 2], [(3, 1)]), moves, shop, [2, 5], 0)
        shop = [("pack", [1, 0], 7), ("pack", [0, 1], 3)]
        self.told((9, [2], []), moves, shop, [2, 3], 0)

    def test_the_others_cover(self):
        shop = [("pack", [1], 7), ("pack", [1], 3)]
        self.told((0, [1, 0], [(3, 1)]), moves, shop, [1], 0)
        # All counts between 4 and 0 are as good at the one point, and at no other.
        self.told((0, [4, 0], [(3, 1)]), moves, shop, [4], 0)

    def test_a_fraction_in_lowest_terms(self):
        shop = [("pack", [1], 7), ("pack", [4], 10)]
        self.told((0, [4, 0], [(5, 2)]), moves, shop, [4], 0)
        self.told((0, [3, 0], [(10, 3)]), moves, shop, [3], 0)
        self.told((0, [5, 1, 0], [(5, 2), (10, 1)]), moves, shop, [5], 0)

    def test_several_stretches(self):
        shop = [("pack", [3], 10), ("many", [1], [(1, 4), (3, 5)])]
        # Three, two, one and none of the pack leave 0, 1, 4 and 7 at 4 each.
        self.told((0, [3, 2, 0], [(4, 1), (12, 1)]), moves, shop, [7], 0)
        shop = [("pack", [2], 0), ("pack", [1], 9), ("pack", [3], 20), ("pack", [5], 28)]
        # Three, two, one and none leave 0, 1, 3 and 5 at 0, 9, 20 and 28.
        self.told((0, [3, 2, 0], [(9, 1), (19, 2)]), moves, shop, [5], 0)
        shop = [("pack", [2], 0), ("pack", [1], 9), ("pack", [3], 20), ("pack", [5], 40)]
        self.told((0, [3, 2, 1, 0], [(9, 1), (11, 1), (18, 1)]), moves, shop, [5], 0)

    def test_a_count_that_is_best_nowhere_is_left_out(self):
        # Two, one and none leave 0, 2 and 4 at 0, 9 and 10: one would be best from 9 on, none is from 5 on.
        self.told((0, [2, 0], [(5, 1)]), moves, [("pack", [2], 3), ("pack", [4], 10), ("pack", [2], 9)], [4], 0)

    def test_a_count_that_is_best_at_a_point_alone_is_left_out(self):
        # Two, one and none leave 0, 2 and 4 at 0, 5 and 10.
        self.told((0, [2, 0], [(5, 1)]), moves, [("pack", [2], 3), ("pack", [4], 10), ("pack", [2], 5)], [4], 0)

    def test_more_of_the_pack_than_help_are_not_told(self):
        # What the first one leaves costs nothing: a second one is as good at nought alone.
        shop = [("pack", [1], 7), ("pack", [2], 5), ("many", [1], [(1, 5), (2, 0)])]
        self.told((0, [0], []), moves, shop, [2], 0)
        shop = [("pack", [1, 1], 7), ("pack", [0, 1], 0)]
        self.told((0, [2], []), moves, shop, [2, 9], 0)

    def test_a_pack_of_what_is_not_wanted(self):
        self.told((3, [0], []), moves, [("pack", [0, 9], 7), ("pack", [1, 0], 3)], [1, 0], 0)
        self.told(None, moves, [("pack", [0, 9], 7)], [1, 0], 0)

    def test_the_start_above_nought(self):
        shop = [("pack", [2, 0], 0), ("pack", [0, 1], 6), ("pack", [1, 1], 8)]
        self.told((12, [1, 0], [(4, 1)]), moves, shop, [2, 2], 0)

    def test_lines_with_adds(self):
        shop = [("pack", [0, 1], 6), ("pack", [1, 0], 5), ("add", [0, 1], 2, 0), ("add", [1, 0], 1, 0)]
        # One of the pack leaves [0, 2] at 8; without it [1, 2] costs 9.
        self.told((8, [1, 0], [(1, 1)]), moves, shop, [1, 2], 1)

    def test_each_place(self):
        packs = [("pack", [1], 2), ("pack", [2], 3), ("pack", [3], 4)]
        for order in itertools.permutations(packs):
            for want in range(10):
                for place in range(3):
                    self.check(list(order), [want], place, reckoned_prices(list(order), [want], place))


class PriceTest(MovesCase):
    def test_nought(self):
        self.told((0, [0], []), moves, [("pack", [1], 0), ("pack", [1], 0)], [3], 0)
        self.told((0, [0], []), moves, [("pack", [1], 9), ("many", [3], [(1, 0)])], [9], 0)
        self.told((0, [3, 0], [(4, 3)]), moves, [("pack", [1], 0), ("pack", [3], 4)], [3], 0)

    def test_twelve_figures(self):
        shop = [("pack", [1], 1), ("pack", [1], MOST_PRICE)]
        self.told((0, [9, 0], [(MOST_PRICE, 1)]), moves, shop, [9], 0)
        shop = [("pack", [1], MOST_PRICE), ("pack", [8], MOST_PRICE)]
        self.told((0, [8, 0], [(MOST_PRICE, 8)]), moves, shop, [8], 0)
        self.told((0, [9, 1, 0], [(MOST_PRICE, 8), (MOST_PRICE, 1)]), moves, shop, [9], 0)
        shop = [("pack", [1], 5), ("pack", [1], MOST_PRICE), ("pack", [2], MOST_PRICE - 1), ("pack", [3], MOST_PRICE)]
        self.check(shop, [9], 0, reckoned_prices(shop, [9], 0))

    def test_hangs_on_no_price_that_the_pack_has(self):
        for shop, things in some_shops(141, 80, 6, (3, 9)):
            want = [3, 2, 1, 2][:things]
            for place in standing_alone(shop):
                told = [moves(with_price(shop, place, price), want, place) for price in (0, 1, 7, MOST_PRICE)]
                self.assertEqual({repr(one) for one in told}, {repr(moves(shop, want, place))})

    def test_whole_prices_in_the_pack_s_place(self):
        seen = 0
        for shop, things in some_shops(142, 100, 6, (3, 9)):
            want = [4, 2, 1, 2][:things]
            for place in standing_alone(shop):
                told = moves(shop, want, place)
                if told is None:
                    self.assertIsNone(least(shop, want))
                    continue
                near = [top // bottom + more for top, bottom in told[2] for more in (0, 1)]
                for price in [0, shop[place][2], MOST_PRICE] + near:
                    self.assertEqual(least(with_price(shop, place, price), want)[0], stretch_at(told, price))
                seen += len(told[1]) > 2
        self.assertGreater(seen, 10)


class SearchTest(MovesCase):
    def test_small_shops_against_all_purchases(self):
        chance = random.Random(143)
        seen = {}
        for at in range(400):
            things = chance.randint(1, 3)
            shop = some_shop(chance, things, chance.randint(1, 4), (2, 9))
            want = [chance.randint(0, 3) for thing in range(things)]
            if sum(want) < 6 and len(plain_lines(shop)) < 16:
                for place in standing_alone(shop):
                    with self.subTest(shop=shop, want=want, place=place):
                        told = self.check(shop, want, place, searched_prices(shop, want, place))
                        kind = told and (len(told[1]), told[1][-1] > 0)
                        seen[kind] = seen.get(kind, 0) + 1
        # Nothing covers; the pack is needed or not, on one and on several stretches.
        for kind in (None, (1, True), (1, False), (2, True), (2, False), (3, False)):
            self.assertGreater(seen.get(kind, 0), 1, kind)

    def test_all_sorts_of_shops(self):
        chance = random.Random(144)
        longest = 0
        for shop, things in some_shops(145, 150, 8, (4, 40)):
            want = [chance.randint(0, (9, 9, 6, 3)[things - 1]) for thing in range(things)]
            for place in standing_alone(shop):
                told = self.check(shop, want, place, reckoned_prices(shop, want, place))
                longest = max(longest, len(told[1]) if told else 0)
        self.assertGreater(longest, 3)


class OwnTest(MovesCase):
    def test_told_lists_are_the_asker_s_own(self):
        shop = [("pack", [1], 7), ("pack", [4], 10)]
        want = [5]
        first = moves(shop, want, 0)
        first[1].append(9)
        first[2].clear()
        shop[1][1][0] = 2
        want[0] = 1
        self.assertEqual(moves([("pack", [1], 7), ("pack", [4], 10)], [5], 0), (0, [5, 1, 0], [(5, 2), (10, 1)]))
        self.assertEqual(shop, [("pack", [1], 7), ("pack", [2], 10)])
        self.assertEqual(want, [1])


class RefusedTest(MovesCase):
    def test_a_shop_with_a_fault_first(self):
        pack = ("pack", [1, 0], 5)
        for place, shop in (
            (1, [pack, ("add", [0, 1], 3, 1)]),
            (1, [pack, ("many", [0, 1], [])]),
            (2, [pack, ("many", [0, 1], [(1, 4)]), ("add", [0, 1], 3, 1)]),
        ):
            for want in ([1, 1], [0, 0], [0, 9]):
                self.assertEqual(self.refused(NoOffer, moves, shop, want, 0).place, place)
                # Of no such shop is there an offer at 7.
                self.assertEqual(self.refused(NoOffer, moves, shop, want, 7).place, place)


class TimeTest(MovesCase):
    PACK = ("pack", [1, 1, 0, 1], 9)
    SHOPS = (
        [PACK] + [("many", [1 + at // 4, at % 3, at % 2, 1], [(1, 90 + at), (3, 80), (12, 70)]) for at in range(7)],
        [PACK, ("pack", [1, 1, 1, 1], 100)] + [("add", [at % 3, 1, at % 2, 1], 20 + at, 1) for at in range(6)],
        [PACK] + [("pack", [int(at % 4 == thing) for thing in range(4)], 5 + at) for at in range(7)],
    )

    def test_four_hundred_lesser_wants_and_eight_offers(self):
        for shop in self.SHOPS:
            for want in ([4, 4, 3, 3], [9, 9, 3, 0]):
                begun = time.perf_counter()
                told = moves(shop, want, 0)
                self.assertLess(time.perf_counter() - begun, 5)
                self.check_kinds(told)


if __name__ == "__main__":
    unittest.main()
