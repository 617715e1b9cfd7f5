"""Point 5: how shops are looked at, and refused with NoOffer."""

import itertools
import unittest

from packwants.errors import NoOffer
from packwants.least import cases, least, shows
from packwants.moves import moves
from packwants.prices import fair, hold_together, single_prices
from packwants.shops import bought, line_content, line_price, lines, look
from packwants.spare import spared, thinned
from packwants.texts import show_shop
from tests.helper import AskCase

PACK = ("pack", [1, 0], 100)
MANY = ("many", [0, 1], [(1, 10), (6, 8)])


def add(place):
    return ("add", [0, 2], 30, place)


def many(*begins):
    return ("many", [0, 1], [(begin, 10) for begin in begins])


class GoodTest(AskCase):
    def test_the_empty_shop(self):
        self.told(None, look, [])

    def test_each_kind(self):
        self.told(None, look, [PACK])
        self.told(None, look, [MANY])
        self.told(None, look, [PACK, add(0)])

    def test_eight_offers(self):
        self.told(None, look, [PACK] * 8)
        self.told(None, look, [MANY, PACK, add(1), PACK, add(3), add(1), many(1, 2, 3, 4), add(3)])

    def test_adds_of_one_pack_and_of_several(self):
        self.told(None, look, [PACK, add(0), add(0)])
        self.told(None, look, [PACK, PACK, add(0), add(1)])
        self.told(None, look, [PACK, PACK, add(1), add(0)])

    def test_good_tiers(self):
        for begins in ((1,), (1, 2), (1, 12), (1, 2, 3), (1, 2, 11, 12), (1, 2, 3, 4)):
            self.told(None, look, [many(*begins)])

    def test_tiers_prices_may_rise_fall_and_be_nought(self):
        self.told(None, look, [("many", [1], [(1, 5), (2, 9), (3, 0), (4, 999999999999)])])


class RefusedTest(AskCase):
    def check(self, place, shop):
        self.assertEqual(self.refused(NoOffer, look, shop).place, place)

    def test_add_place_below_nought(self):
        # From behind, -1 to -3 would be places of packs.
        for place in (-1, -2, -3, -9):
            self.check(1, [PACK, add(place), PACK])

    def test_add_place_its_own(self):
        self.check(0, [add(0)])
        self.check(1, [PACK, add(1)])

    def test_add_place_behind_it(self):
        self.check(0, [add(1), PACK])
        self.check(1, [PACK, add(2), PACK])

    def test_add_place_beyond_all(self):
        self.check(1, [PACK, add(2)])
        self.check(1, [PACK, add(99)])

    def test_add_place_of_a_many(self):
        self.check(1, [MANY, add(0)])
        self.check(2, [PACK, MANY, add(1)])

    def test_add_place_of_another_add(self):
        self.check(2, [PACK, add(0), add(1)])

    def test_tiers(self):
        faults = {
            "none": (),
            "five": (1, 2, 3, 4, 5),
            "the first 0": (0,),
            "the first 0, then 1": (0, 1),
            "the first 2": (2,),
            "the first 2 of two": (2, 3),
            "below nought": (-1, 1),
            "two alike": (1, 1),
            "the last two alike": (1, 5, 5),
            "the middle two alike": (1, 3, 3, 4),
            "falling": (1, 6, 5),
            "falling at the front": (1, 0),
            "falling in the middle": (1, 6, 5, 7),
            "the last 13": (1, 13),
            "the last of four 13": (1, 2, 3, 13),
            "one beyond 12 ahead of the last": (1, 13, 12),
        }
        for name, begins in faults.items():
            with self.subTest(name):
                self.check(0, [many(*begins)])
                self.check(2, [PACK, add(0), many(*begins)])

    def test_all_tiers_of_up_to_two_froms(self):
        for begins in itertools.product(range(-1, 15), repeat=2):
            shop = [PACK, many(*begins)]
            if begins[0] == 1 and begins[1] in range(2, 13):
                self.told(None, look, shop)
            else:
                self.check(1, shop)

    def test_of_two_faults_the_first_is_told(self):
        self.check(1, [PACK, add(1), many(2)])
        self.check(1, [PACK, many(2), add(1)])
        self.check(0, [many(), add(0)])
        self.check(2, [PACK, MANY, add(1), add(2), many(1, 1)])
        self.check(7, [PACK] * 7 + [add(7)])


class AllRefuseTest(AskCase):
    FAULTS = (
        (1, [PACK, ("add", [0, 2], 30, 1)]),
        (1, [PACK, ("add", [0, 2], 30, -2)]),
        (1, [PACK, ("many", [0, 1], [])]),
        (1, [PACK, ("many", [0, 1], [(2, 5)])]),
        (1, [PACK, ("many", [0, 1], [(1, 5), (13, 5)]), ("add", [0, 2], 30, 1)]),
        (3, [PACK, ("add", [0, 2], 30, 0), MANY, ("add", [0, 2], 30, 2)]),
    )

    def check(self, function, *more):
        for place, shop in self.FAULTS:
            with self.subTest(place=place, shop=shop):
                self.assertEqual(self.refused(NoOffer, function, shop, *more).place, place)

    def test_lines(self):
        self.check(lines)

    def test_line_content(self):
        self.check(line_content, (0, 1, []))

    def test_line_price(self):
        self.check(line_price, (0, 1, []))

    def test_bought(self):
        self.check(bought, [])
        self.check(bought, [(0, 1, [])])

    def test_least_and_cases(self):
        for want in ([1, 1], [0, 0]):
            self.check(least, want)
            self.check(cases, want)

    def test_shows(self):
        self.check(shows, [0, 0], [([0, 0], 0)])
        # A table that would not show in any case.
        self.check(shows, [0, 0], [])
        self.check(shows, [1, 0], [([0, 0], 1), ([0, 1], 0)])

    def test_prices(self):
        self.check(fair, [(0, 1), (0, 1)])
        self.check(fair, [(1000, 1), (0, 1)])
        for want in ([1, 1], [0, 0]):
            self.check(single_prices, want)

    def test_hold_together(self):
        self.check(hold_together, [0, 0], ((0, 1), [(0, 1), (0, 1)], []))
        # Of these one would be False in any case.
        self.check(hold_together, [0, 0], ((0, 0), [], []))
        self.check(hold_together, [0, 0], ((0, 1), [(0, 1), (0, 1)], [((0, 1, []), (0, 1))]))

    def test_spared_and_thinned(self):
        self.check(spared)
        self.check(thinned)

    def test_moves(self):
        for want in ([1, 1], [0, 0]):
            self.check(moves, want, 0)

    def test_show_shop(self):
        for place, shop in self.FAULTS:
            self.assertEqual(self.refused(NoOffer, show_shop, ["ham", "egg"], shop).place, place)

    def test_first_ahead_of_all_else(self):
        # These lines are of no such shop: the shop's fault comes first.
        self.check(line_content, (7, 1, [9]))
        self.check(line_price, (7, 1, [9]))
        self.check(bought, [(7, 1, [9])])
        self.check(moves, [1, 1], 7)


if __name__ == "__main__":
    unittest.main()
