"""Point 11: whether value, prices and shares hold together."""

import random
import unittest
from fractions import Fraction

from packwants.prices import hold_together, single_prices
from tests.helper import AskCase, plain_lines, some_shops

SHOP = [
    ("pack", [2, 1], 8), ("pack", [1, 3], 9), ("add", [0, 1], 5, 1), ("many", [1, 0], [(1, 9), (2, 4)]),
    ("pack", [2, 1], 8),
]
WANT = [1, 1]
VALUE = (5, 1)
PRICES = [(3, 1), (2, 1)]
SHARES = [((0, 1, []), (2, 5)), ((1, 1, []), (1, 5))]


def plain_hold(shop, want, told):
    """Whether what is told holds together, by the words of points 10 and 11."""
    value, prices, shares = told
    if any(bottom < 1 for top, bottom in [value] + prices + [share for line, share in shares]):
        return False
    value = Fraction(*value)
    worth = [Fraction(*price) for price in prices]
    parts = [Fraction(*share) for line, share in shares]
    known = {repr(line): (content, price) for line, content, price in plain_lines(shop)}
    taken = [line for line, share in shares]
    if len(worth) != len(want) or any(price < 0 for price in worth) or any(part <= 0 for part in parts):
        return False
    if taken != sorted(taken) or len({repr(line) for line in taken}) != len(taken):
        return False
    if any(repr(line) not in known for line in taken):
        return False
    for content, price in known.values():
        if sum(number * each for number, each in zip(content, worth)) > price:
            return False
    rows = [known[repr(line)] for line in taken]
    for thing, number in enumerate(want):
        if sum(row[0][thing] * part for row, part in zip(rows, parts)) < number:
            return False
    cost = sum(row[1] * part for row, part in zip(rows, parts))
    return cost == value == sum(number * each for number, each in zip(want, worth))


class HoldCase(AskCase):
    def check(self, expected, value=VALUE, prices=PRICES, shares=SHARES, shop=SHOP, want=WANT):
        told = (value, list(prices), list(shares))
        self.assertIs(self.ask(hold_together, shop, list(want), told), expected)
        # The words of the document, told once more, guard against a slip in a test.
        self.assertIs(plain_hold(shop, list(want), told), expected)


class TrueTest(HoldCase):
    def test_what_is_told(self):
        self.check(True)
        self.check(True, *single_prices(SHOP, WANT))
        for shop, things in some_shops(116, 150):
            want = [1, 0, 2, 3][:things]
            told = single_prices(shop, want)
            if told is not None:
                self.check(True, *told, shop, want)

    def test_another_way_to_tell_the_same(self):
        self.check(True, VALUE, PRICES, [SHARES[1], ((4, 1, []), (2, 5))])
        shares = [((0, 1, []), (1, 5)), SHARES[1], ((4, 1, []), (1, 5))]
        self.check(True, VALUE, PRICES, shares)

    def test_wants_of_noughts(self):
        self.check(True, (0, 1), [(0, 1), (0, 1)], [], SHOP, [0, 0])
        self.check(True, (0, 1), PRICES, [], SHOP, [0, 0])
        self.check(True, (0, 1), [(0, 1)], [], [], [0])
        self.check(True, (0, 1), [(7, 2), (10 ** 30, 1)], [], [], [0, 0])
        self.check(False, (1, 1), [(0, 1)], [], [], [0])
        self.check(False, (0, 1), [], [], [], [0])

    def test_lines_of_nought_may_be_taken_too(self):
        shop = [("pack", [1, 0], 4), ("pack", [0, 1], 0)]
        shares = [((0, 1, []), (1, 1)), ((1, 1, []), (9, 1))]
        self.check(True, (4, 1), [(4, 1), (0, 1)], shares, shop, [1, 0])

    def test_more_than_is_wanted_may_be_taken(self):
        shop = [("pack", [1, 5], 4)]
        self.check(True, (4, 1), [(4, 1), (0, 1)], [((0, 1, []), (1, 1))], shop, [1, 1])

    def test_not_in_lowest_terms(self):
        self.check(True, (10, 2))
        self.check(True, VALUE, [(6, 2), (2, 1)])
        self.check(True, VALUE, [(3, 1), (14, 7)])
        self.check(True, VALUE, PRICES, [((0, 1, []), (4, 10)), ((1, 1, []), (10, 50))])
        self.check(True, (0, 8), [(0, 3), (0, 9)], [], SHOP, [0, 0])

    def test_great_tops_and_bottoms(self):
        great = 10 ** 40
        self.check(True, (5 * great, great))
        self.check(False, (5 * great + 1, great))
        self.check(True, VALUE, [(3 * great, great), (2 * great, great)])
        self.check(False, VALUE, [(3 * great + 1, great), (2 * great - 1, great)])
        self.check(True, VALUE, PRICES, [((0, 1, []), (2 * great, 5 * great)), SHARES[1]])


class FalseTest(HoldCase):
    def test_another_value(self):
        for value in ((4, 1), (6, 1), (0, 1), (-5, 1), (51, 10), (1, 5)):
            self.check(False, value)

    def test_another_price(self):
        for other in ((0, 1), (29, 10), (31, 10), (-3, 1), (1, 3)):
            self.check(False, VALUE, [other, (2, 1)])
        for other in ((0, 1), (19, 10), (21, 10), (-2, 1), (1, 2)):
            self.check(False, VALUE, [(3, 1), other])

    def test_prices_exchanged(self):
        # They come to as much, but are not fair.
        self.check(False, VALUE, [(2, 1), (3, 1)])

    def test_prices_that_are_not_fair_but_come_to_the_value(self):
        shop = [("pack", [2, 2], 10), ("pack", [1, 0], 3)]
        shares = [((0, 1, []), (1, 2))]
        self.check(True, (5, 1), [(3, 1), (2, 1)], shares, shop, [1, 1])
        self.check(False, (5, 1), [(4, 1), (1, 1)], shares, shop, [1, 1])

    def test_prices_below_nought(self):
        shop = [("pack", [1, 1], 4), ("pack", [2, 3], 7)]
        # No line undercuts them, and all sums are right.
        self.check(False, (4, 1), [(5, 1), (-1, 1)], [((0, 1, []), (1, 1))], shop, [1, 1])
        shop = [("pack", [1, 0], 4)]
        self.check(True, (4, 1), [(4, 1), (0, 1)], [((0, 1, []), (1, 1))], shop, [1, 0])
        self.check(False, (4, 1), [(4, 1), (-1, 1)], [((0, 1, []), (1, 1))], shop, [1, 0])

    def test_fair_prices_that_come_to_less(self):
        self.check(False, (4, 1), [(2, 1), (2, 1)])
        self.check(False, (4, 1), [(2, 1), (2, 1)], [((0, 1, []), (1, 5)), ((1, 1, []), (1, 5))])

    def test_shares_that_cost_more(self):
        self.check(False, VALUE, PRICES, [((0, 1, []), (3, 5)), SHARES[1]])
        self.check(False, (8, 1), PRICES, [((0, 1, []), (1, 1))])

    def test_shares_that_do_not_cover(self):
        # One that costs the value, but has too little of the one thing or of the other.
        self.check(False, VALUE, PRICES, [((0, 1, []), (5, 8))])
        self.check(False, VALUE, PRICES, [((1, 1, []), (5, 9))])
        self.check(False, VALUE, PRICES, [])

    def test_another_number_of_prices(self):
        self.check(False, VALUE, [])
        self.check(False, VALUE, [(3, 1)])
        self.check(False, VALUE, PRICES + [(0, 1)])
        self.check(False, (0, 1), [(0, 1)], [], SHOP, [0, 0])
        self.check(False, (0, 1), [(0, 1)] * 3, [], SHOP, [0, 0])

    def test_another_share(self):
        for other in ((1, 5), (3, 5), (39, 100), (41, 100), (-2, 5), (5, 2)):
            self.check(False, VALUE, PRICES, [((0, 1, []), other), SHARES[1]])

    def test_shares_of_nought_and_below(self):
        for share in ((0, 1), (0, 7)):
            self.check(False, VALUE, PRICES, SHARES + [((4, 1, []), share)])
        # All sums are right.
        shares = [((0, 1, []), (3, 5)), SHARES[1], ((4, 1, []), (-1, 5))]
        self.check(False, VALUE, PRICES, shares)

    def test_another_line(self):
        for line in ((0, 1, [2]), (3, 1, []), (3, 2, []), (1, 1, [2])):
            self.check(False, VALUE, PRICES, [(line, (2, 5))] + SHARES[1:])

    def test_lines_that_the_shop_does_not_have(self):
        for line in (
            (5, 1, []), (-1, 1, []), (-5, 1, []), (0, 0, []), (0, 2, []), (0, -1, []), (0, 1, [1]), (0, 1, [2]),
            (0, 1, [0]), (0, 1, [9]), (0, 1, [-3]), (2, 1, []), (3, 13, []), (3, 0, []), (3, 1, [2]), (99, 99, [99]),
        ):
            self.check(False, VALUE, PRICES, sorted([(line, (2, 5)), SHARES[1]]))
            self.check(False, VALUE, PRICES, sorted(SHARES + [(line, (1, 5))]))

    def test_adds_twice_and_in_another_order(self):
        shop = [("pack", [1], 4), ("add", [1], 0, 0), ("add", [1], 0, 0)]
        self.check(True, (4, 1), [(4, 3)], [((0, 1, [1, 2]), (1, 1))], shop, [3])
        self.check(False, (4, 1), [(4, 3)], [((0, 1, [2, 1]), (1, 1))], shop, [3])
        self.check(False, (4, 1), [(4, 3)], [((0, 1, [1, 1]), (1, 1))], shop, [3])

    def test_lines_in_another_order(self):
        self.check(False, VALUE, PRICES, SHARES[::-1])
        shop = [("many", [1], [(1, 4)]), ("pack", [1], 4), ("add", [1], 4, 1), ("add", [1], 4, 1)]
        ordered = [(0, 1, []), (0, 2, []), (1, 1, []), (1, 1, [2]), (1, 1, [2, 3]), (1, 1, [3])]
        shares = [(line, (2, 11)) for line in ordered]
        self.check(True, (8, 1), [(4, 1)], shares, shop, [2])
        for at in range(5):
            self.check(False, (8, 1), [(4, 1)], shares[:at] + [shares[at + 1], shares[at]] + shares[at + 2:], shop, [2])

    def test_lines_that_are_alike(self):
        self.check(False, VALUE, PRICES, [((0, 1, []), (1, 5)), ((0, 1, []), (1, 5)), SHARES[1]])

    def test_a_bottom_below_one(self):
        self.check(False, (5, 0))
        self.check(False, (-5, -1))
        self.check(False, VALUE, [(-3, -1), (2, 1)])
        self.check(False, VALUE, [(3, 1), (2, 0)])
        self.check(False, VALUE, [(3, 1), (-2, -1)])
        self.check(False, VALUE, PRICES, [((0, 1, []), (-2, -5)), SHARES[1]])
        self.check(False, VALUE, PRICES, [((0, 1, []), (2, 0)), SHARES[1]])
        self.check(False, VALUE, PRICES, [SHARES[0], ((1, 1, []), (-1, -5))])
        self.check(False, (0, 0), [(0, 1)], [], [], [0])
        self.check(False, (0, 1), [(0, 0)], [], [], [0])

    def test_a_wanted_thing_in_no_line(self):
        shop = [("pack", [1, 0], 4)]
        self.check(False, (4, 1), [(4, 1), (0, 1)], [((0, 1, []), (1, 1))], shop, [1, 1])
        self.check(False, (0, 1), [(0, 1)], [], [], [1])


class AllSortsTest(HoldCase):
    def spoiled(self, chance, told):
        """What is told with one number another one, or one share left out or told twice."""
        value, prices, shares = told
        kind = chance.choice(("value", "price", "share", "line", "out", "twice", "terms"))
        at = chance.randrange(len(shares))
        (place, count, adds), (top, bottom) = shares[at]
        step = chance.choice((-1, 1))
        if kind == "value":
            return ((value[0] + step, value[1]), prices, shares)
        if kind == "price":
            thing = chance.randrange(len(prices))
            other = (prices[thing][0] + step, prices[thing][1])
            return (value, prices[:thing] + [other] + prices[thing + 1:], shares)
        others = {
            "share": [((place, count, adds), (top + step, bottom))],
            "line": [((place + step, count, adds), (top, bottom))],
            "out": [],
            "twice": [shares[at], shares[at]],
            "terms": [((place, count, adds), (7 * top, 7 * bottom))],
        }
        return (value, prices, shares[:at] + others[kind] + shares[at + 1:])

    def test_by_the_words_of_the_document(self):
        chance = random.Random(117)
        seen = {True: 0, False: 0}
        for shop, things in some_shops(118, 800, 5, (3, 9)):
            want = [chance.randint(0, 3) for thing in range(things)]
            told = single_prices(shop, want)
            if told is not None and told[2]:
                told = self.spoiled(chance, told)
                expected = plain_hold(shop, want, told)
                seen[expected] += 1
                self.check(expected, *told, shop, want)
        self.assertGreater(min(seen.values()), 20)


if __name__ == "__main__":
    unittest.main()
