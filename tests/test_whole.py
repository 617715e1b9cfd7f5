"""Points 1 to 3: what is promised over the whole program, for each shop and wants."""

import random
import unittest
from fractions import Fraction

from packwants.least import cases, least, shows
from packwants.moves import moves
from packwants.prices import fair, hold_together, single_prices
from packwants.shops import bought, lines
from packwants.spare import spared, thinned
from packwants.texts import read_shop, show_shop
from packwants.wants import covers
from tests.helper import AskCase, MOST_PRICE, some_shops, standing_alone

NAMES = ["ham", "egg", "salt", "oil"]


def some_questions(seed, number, most):
    """Triples of a shop, wants, and a place of a pack that stands alone or None."""
    chance = random.Random(seed)
    for shop, things in some_shops(seed, number, 8, most):
        want = [chance.randint(0, (9, 9, 6, 3)[things - 1]) for thing in range(things)]
        alone = standing_alone(shop)
        yield shop, want, chance.choice(alone) if alone else None


def stretched(told, price):
    """What the told stretches come to at a price of the pack."""
    start, counts, points = told
    ends = [Fraction(*point) for point in points if Fraction(*point) < price] + [Fraction(price)]
    return start + sum(count * (end - begin) for count, begin, end in zip(counts, [0] + ends, ends))


class WholeTest(AskCase):
    def test_small_prices(self):
        self.check_all(some_questions(31, 150, (4, 20)))

    def test_prices_of_twelve_figures(self):
        self.check_all(some_questions(32, 60, (9, MOST_PRICE)))

    def check_all(self, questions):
        seen = {True: 0, False: 0}
        for shop, want, place in questions:
            told = least(shop, want)
            seen[told is not None] += 1
            self.check_least(shop, want, told)
            self.check_single(shop, want, told)
            self.check_spared(shop, want, told)
            if place is not None:
                self.check_moves(shop, want, place, told)
        self.assertGreater(min(seen.values()), 5)

    def check_least(self, shop, want, told):
        table = cases(shop, want)
        self.assertTrue(shows(shop, want, table))
        self.assertEqual(table[-1], (want, None if told is None else told[0]))
        if told is not None:
            content, price = bought(shop, told[1])
            self.assertTrue(covers(content, want))
            self.assertEqual(price, told[0])

    def check_single(self, shop, want, told):
        single = single_prices(shop, want)
        self.assertEqual(single is None, told is None)
        if single is not None:
            self.assertTrue(fair(shop, single[1]))
            self.assertTrue(hold_together(shop, want, single))
            self.assertLessEqual(Fraction(*single[0]), told[0])

    def check_spared(self, shop, want, told):
        for place, purchase in spared(shop):
            content, price = bought(shop, purchase)
            self.assertTrue(covers(content, shop[place][1]))
            self.assertLessEqual(price, shop[place][2])
            self.assertNotIn(place, [line[0] for line in purchase])
        other = least(thinned(shop)[0], want)
        self.assertEqual(other and other[0], told and told[0])

    def check_moves(self, shop, want, place, told):
        moved = moves(shop, want, place)
        self.assertEqual(moved is None, told is None)
        if moved is not None:
            self.assertEqual(stretched(moved, shop[place][2]), told[0])


class TogetherTest(AskCase):
    """Point 2, with answers of one function handed to another."""

    SHOP = [("pack", [2, 1], 9), ("add", [0, 1], 2, 0), ("many", [1, 0], [(1, 5), (3, 4)]), ("pack", [0, 1], 4)]

    def test_an_answer_that_is_changed_changes_no_later_one(self):
        asked = (
            (lines, ()), (least, ([3, 2],)), (cases, ([1, 1],)), (single_prices, ([3, 2],)), (spared, ()),
            (thinned, ()), (moves, ([3, 2], 3)),
        )
        before = [repr(function(self.SHOP, *more)) for function, more in asked]
        for function, more in asked:
            self.ask(function, self.SHOP, *more)
            self.assertEqual([repr(other(self.SHOP, *rest)) for other, rest in asked], before)

    def test_a_shop_that_was_told_is_handed_on(self):
        rows = show_shop(NAMES[:2], self.SHOP)
        told = read_shop(NAMES[:2], rows)
        left = thinned(told)[0]
        left[0][1][0] = 1
        self.assertEqual(told, self.SHOP)
        self.assertEqual(show_shop(NAMES[:2], told), rows)


if __name__ == "__main__":
    unittest.main()
