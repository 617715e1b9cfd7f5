"""Point 9: tables of cases, and whether they show."""

import itertools
import random
import time
import unittest

from packwants.least import cases, least, shows
from tests.helper import MOST_PRICE, AskCase, plain_left, plain_lines, some_shop, some_shops


def plain_shows(shop, want, table):
    """Whether a table shows, by the words of point 9."""
    wanted = [list(less) for less in itertools.product(*[range(number + 1) for number in want])]
    if [row[0] for row in table] != wanted:
        return False
    numbers = {tuple(less): number for less, number in table}
    if table[0][1] is None or table[0][1] > 0:
        return False
    for less, number in table:
        for line, content, price in plain_lines(shop):
            behind = numbers[tuple(plain_left(less, content))]
            if number is None and behind is not None:
                return False
            if number is not None and behind is not None and number > price + behind:
                return False
    return True


def with_number(table, at, number):
    return table[:at] + [(table[at][0], number)] + table[at + 1:]


SHOP = [("pack", [2, 0], 9), ("add", [0, 2], 1, 0), ("pack", [1, 0], 5), ("many", [0, 1], [(1, 4), (2, 3)])]
TABLE = [
    ([0, 0], 0), ([0, 1], 4), ([0, 2], 6),
    ([1, 0], 5), ([1, 1], 9), ([1, 2], 10),
    ([2, 0], 9), ([2, 1], 10), ([2, 2], 10),
]
# Of thing 1 nothing is sold.
GAP = [("pack", [1, 0], 3)]
GAP_TABLE = [([0, 0], 0), ([0, 1], None), ([1, 0], 3), ([1, 1], None)]


class CasesTest(AskCase):
    def test_each_of_the_lesser_wants_in_order(self):
        self.told(TABLE, cases, SHOP, [2, 2])

    def test_wants_of_noughts(self):
        self.told([([0, 0], 0)], cases, SHOP, [0, 0])
        self.told([([0], 0)], cases, [], [0])

    def test_none_where_nothing_covers(self):
        self.told(GAP_TABLE, cases, GAP, [1, 1])

    def test_the_empty_shop(self):
        self.told([([0, 0], 0), ([0, 1], None), ([1, 0], None), ([1, 1], None)], cases, [], [1, 1])

    def test_great_prices(self):
        expected = [([0], 0)] + [([number], number * MOST_PRICE) for number in range(1, 10)]
        self.told(expected, cases, [("pack", [1], MOST_PRICE)], [9])

    def test_prices_of_nought(self):
        self.told([([0], 0), ([1], 0), ([2], 0)], cases, [("pack", [1], 0)], [2])

    def test_least_prices_that_a_purchase_costs_and_a_looker_holds(self):
        for shop, things in some_shops(91, 60):
            want = [3, 2, 1, 1][:things]
            table = self.ask(cases, shop, want)
            self.assertTrue(plain_shows(shop, want, table))
            for less, number in table:
                told = least(shop, less)
                self.assertEqual(number, None if told is None else told[0])

    def test_four_hundred_lesser_wants_in_a_short_time(self):
        shop = [("pack", [1, 1, 1, 1], 100)] + [("add", [at % 3, at % 2, 1, 1], 20 + at, 0) for at in range(1, 8)]
        begun = time.perf_counter()
        table = cases(shop, [4, 4, 3, 3])
        self.assertIs(shows(shop, [4, 4, 3, 3], table), True)
        self.assertLess(time.perf_counter() - begun, 10)
        self.assertEqual(len(table), 400)


class ShowsTest(AskCase):
    def check(self, expected, table, shop=SHOP, want=(2, 2)):
        self.assertIs(self.ask(shows, shop, list(want), table), expected)

    def test_what_is_told(self):
        self.check(True, TABLE)
        self.check(True, GAP_TABLE, GAP, [1, 1])
        for shop, things in some_shops(92, 40):
            want = [2, 3, 1, 1][:things]
            self.check(True, cases(shop, want), shop, want)

    def test_one_number_more(self):
        for at, (less, number) in enumerate(TABLE):
            self.check(False, with_number(TABLE, at, number + 1))

    def test_one_number_less(self):
        # Where no other number rests on it, a lesser number is shown too.
        expected = [False, False, True, False, True, True, True, True, True]
        for at, (less, number) in enumerate(TABLE):
            self.check(expected[at], with_number(TABLE, at, number - 1))

    def test_none_for_a_number(self):
        for at in range(len(TABLE)):
            self.check(False, with_number(TABLE, at, None))

    def test_a_number_for_none(self):
        # [1, 1] is None, and the pack of [1, 0] leaves [0, 1] of it.
        self.check(False, with_number(GAP_TABLE, 1, 7), GAP, [1, 1])
        for number in (-5, 0, 7, 10 ** 20):
            self.check(True, with_number(GAP_TABLE, 3, number), GAP, [1, 1])
        self.check(True, [([0, 0], 0), ([0, 1], 7), ([1, 0], 3), ([1, 1], 10)], GAP, [1, 1])
        self.check(False, [([0, 0], 0), ([0, 1], 7), ([1, 0], 3), ([1, 1], 11)], GAP, [1, 1])

    def test_none_for_all_but_the_noughts(self):
        self.check(False, TABLE[:1] + [(less, None) for less, number in TABLE[1:]])

    def test_none_for_all(self):
        self.check(False, [(less, None) for less, number in TABLE])
        self.check(False, [([0], None)], [], [0])

    def test_rows_left_out(self):
        for at in range(len(TABLE)):
            self.check(False, TABLE[:at] + TABLE[at + 1:])

    def test_rows_twice(self):
        for at in range(len(TABLE)):
            self.check(False, TABLE[:at] + [TABLE[at]] + TABLE[at:])

    def test_rows_exchanged(self):
        for low, high in itertools.combinations(range(len(TABLE)), 2):
            table = list(TABLE)
            table[low], table[high] = table[high], table[low]
            self.check(False, table)

    def test_other_rows(self):
        self.check(False, TABLE + [([2, 3], 0)])
        self.check(False, TABLE[:-1] + [([3, 2], 0)])
        self.check(False, TABLE[:-1] + [([2, 2, 0], 0)])
        self.check(False, TABLE[:-1] + [([2], 0)])
        self.check(False, TABLE[:-1] + [([], 0)])
        self.check(False, [([-1, 0], 0)] + TABLE)

    def test_the_table_of_other_wants(self):
        self.check(False, TABLE, SHOP, [2, 1])
        self.check(False, TABLE, SHOP, [2, 3])
        self.check(False, [([0], 0)], SHOP, [0, 0])

    def test_the_empty_list(self):
        self.check(False, [])
        self.check(False, [], [], [0])
        self.check(False, [], SHOP, [0, 0])

    def test_all_less_by_some(self):
        for some in (1, 4, 10 ** 15):
            self.check(True, [(less, number - some) for less, number in TABLE])

    def test_all_more_by_some(self):
        self.check(False, [(less, number + 1) for less, number in TABLE])

    def test_noughts_for_all(self):
        self.check(True, [(less, 0) for less, number in TABLE])
        self.check(True, [(less, 0) for less, number in GAP_TABLE], GAP, [1, 1])

    def test_the_noughts_number(self):
        self.check(True, [([0, 0], 0)], SHOP, [0, 0])
        self.check(True, [([0, 0], -3)], SHOP, [0, 0])
        self.check(False, [([0, 0], 1)], SHOP, [0, 0])
        self.check(False, [([0, 0], None)], SHOP, [0, 0])

    def test_below_nought(self):
        shop = [("pack", [1], 3)]
        self.check(True, [([0], -5), ([1], -2)], shop, [1])
        self.check(False, [([0], -5), ([1], -1)], shop, [1])
        self.check(True, [([0], 0), ([1], -9), ([2], -6)], shop, [2])
        self.check(False, [([0], 0), ([1], -9), ([2], -5)], shop, [2])

    def test_the_empty_shop(self):
        # No line speaks against any number but that of the noughts.
        self.check(True, [([0], 0), ([1], None), ([2], 77)], [], [2])
        self.check(True, [([0], -1), ([1], 10 ** 20), ([2], -77)], [], [2])
        self.check(False, [([0], 1), ([1], None), ([2], None)], [], [2])

    def test_each_line_is_looked_at(self):
        shop = [("pack", [1, 0], 50), ("add", [0, 1], 5, 0), ("add", [1, 0], 6, 0), ("many", [0, 1], [(1, 90), (12, 4)])]
        self.assertEqual(cases(shop, [2, 1]), [
            ([0, 0], 0), ([0, 1], 48), ([1, 0], 50), ([1, 1], 55), ([2, 0], 56), ([2, 1], 61),
        ])
        for at, number in enumerate((1, 49, 51, 56, 57, 62)):
            self.check(False, with_number(cases(shop, [2, 1]), at, number), shop, [2, 1])

    def test_by_the_words_of_the_document(self):
        chance = random.Random(93)
        seen = {True: 0, False: 0}
        for turn in range(600):
            things = chance.randint(1, 3)
            shop = some_shop(chance, things, chance.randint(0, 3), (2, 6))
            want = [chance.randint(0, 2) for thing in range(things)]
            table = cases(shop, want)
            for change in range(chance.randint(1, 3)):
                at = chance.randrange(len(table))
                number = table[at][1]
                number = chance.choice((None, 0, 3, 8)) if number is None else number - chance.randint(-1, 3)
                table = with_number(table, at, chance.choice((None, number, number, number, number)))
            expected = plain_shows(shop, want, table)
            seen[expected] += 1
            self.check(expected, table, shop, want)
        self.assertGreater(min(seen.values()), 100)


if __name__ == "__main__":
    unittest.main()
