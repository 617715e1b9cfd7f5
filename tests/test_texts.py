"""Point 15: contents and shops as texts, shown and read."""

import itertools
import random
import unittest

from packwants.errors import NoOffer, NoText
from packwants.texts import read_content, read_shop, show_content, show_shop
from tests.helper import MOST_PRICE, AskCase, plain_content, plain_offer, some_shops

NAMES = ["ham", "egg", "salt", "oil"]
# Words and single letters of the texts, which are names like any other.
WORDS = ["for", "many", "with", "nothing", "x"]
TWO = ["ham", "egg"]

OFFERS = (
    (("pack", [3, 1], 250), "3 ham, 1 egg for 250"),
    (("pack", [0, 9], 0), "9 egg for 0"),
    (("pack", [1, 0], MOST_PRICE), "1 ham for 999999999999"),
    (("many", [1, 0], [(1, 100)]), "many 1 ham: 1 for 100"),
    (("many", [1, 0], [(1, 100), (6, 80)]), "many 1 ham: 1 for 100, 6 for 80"),
    (("many", [1, 2], [(1, 0), (2, 5), (11, 4)]), "many 1 ham, 2 egg: 1 for 0, 2 for 5, 11 for 4"),
    (("many", [0, 1], [(1, 9), (2, 8), (3, 70), (12, 6)]), "many 1 egg: 1 for 9, 2 for 8, 3 for 70, 12 for 6"),
    (("add", [0, 2], 30, 0), "with 0: 2 egg for 30"),
    (("add", [1, 1], 0, 0), "with 0: 1 ham, 1 egg for 0"),
)


class ShowContentTest(AskCase):
    def test_nothing(self):
        for things in range(1, 5):
            self.told("nothing", show_content, NAMES[:things], [0] * things)

    def test_one_thing(self):
        self.told("3 ham", show_content, ["ham"], [3])
        self.told("9 oil", show_content, NAMES, [0, 0, 0, 9])
        self.told("1 egg", show_content, NAMES, [0, 1, 0, 0])

    def test_several_by_the_things_numbers(self):
        self.told("3 ham, 1 egg", show_content, TWO, [3, 1])
        self.told("1 zinc, 2 ale", show_content, ["zinc", "ale"], [1, 2])
        self.told("1 ham, 2 egg, 3 salt, 4 oil", show_content, NAMES, [1, 2, 3, 4])
        self.told("1 ham, 4 oil", show_content, NAMES, [1, 0, 0, 4])

    def test_names_that_are_words_of_the_texts(self):
        self.told("1 for, 2 many, 3 with, 4 nothing", show_content, WORDS[:4], [1, 2, 3, 4])
        self.told("1 x", show_content, ["x"], [1])
        self.told("1 nothing", show_content, ["nothing"], [1])
        self.told("nothing", show_content, ["nothing"], [0])


class ReadContentTest(AskCase):
    def none(self, names, text):
        self.assertIsNone(plain_content(names, text), text)
        self.assertEqual(self.refused(NoText, read_content, names, text).row, 0, text)

    def test_as_shown(self):
        self.told([3, 1], read_content, TWO, "3 ham, 1 egg")
        self.told([0, 0], read_content, TWO, "nothing")
        self.told([0, 0, 0, 9], read_content, NAMES, "9 oil")
        self.told([1, 2, 3, 4], read_content, NAMES, "1 ham, 2 egg, 3 salt, 4 oil")

    def test_names_that_are_words_of_the_texts(self):
        self.told([1, 2, 3, 4], read_content, WORDS[:4], "1 for, 2 many, 3 with, 4 nothing")
        self.told([0], read_content, ["nothing"], "nothing")
        self.told([1], read_content, ["nothing"], "1 nothing")
        self.told([2], read_content, ["x"], "2 x")

    def test_names_of_eight_letters_and_those_that_begin_others(self):
        names = ["a", "aa", "aaaaaaaa", "ab"]
        self.told([1, 2, 3, 4], read_content, names, "1 a, 2 aa, 3 aaaaaaaa, 4 ab")
        self.told([0, 0, 3, 0], read_content, names, "3 aaaaaaaa")
        self.none(names, "1 aaa")
        self.none(names, "1 b")

    def test_figures(self):
        for text in ("0 ham", "00 ham", "01 ham", "10 ham", "12 ham", "-1 ham", "+1 ham", "1.0 ham", "1_ ham", "ham",
                     "x ham", " ham", "0 ham, 1 egg", "1 ham, 0 egg", "1 ham, 01 egg", "1 ham, 10 egg"):
            self.none(TWO, text)

    def test_figures_that_are_not_the_plain_ones(self):
        for figure in "\u0661\u00b2\u00bd\uff13\u2460\u0967\u4e09":
            self.none(TWO, f"{figure} ham")
            self.none(TWO, f"1 ham, {figure} egg")

    def test_signs_that_are_no_figures(self):
        for sign in map(chr, range(256)):
            if sign not in "123456789":
                self.none(TWO, f"{sign} ham")
                self.none(TWO, f"1{sign} ham")

    def test_things_out_of_order_and_twice(self):
        for text in ("1 egg, 3 ham", "1 ham, 1 ham", "1 ham, 2 egg, 1 ham", "1 egg, 1 egg", "1 ham, 1 ham, 1 egg"):
            self.none(TWO, text)
        for order in itertools.permutations(range(3)):
            text = ", ".join(f"1 {NAMES[thing]}" for thing in order)
            if list(order) != sorted(order):
                self.none(NAMES, text)

    def test_names_that_are_none(self):
        for text in ("1 oil", "1 ha", "1 hams", "1 Ham", "1 HAM", "1 ", "1", "1 ham, 1 oil", "1 nothing", "1 1",
                     "1 ham egg", "1 ham 1 egg", "1 \u0127am"):
            self.none(TWO, text)

    def test_a_sign_or_blank_too_many_or_too_few(self):
        for text in ("", " ", ",", ", ", "3ham", "3  ham", " 3 ham", "3 ham ", "3 ham,1 egg", "3 ham,  1 egg",
                     "3 ham , 1 egg", "3 ham, 1 egg ", "3 ham, 1 egg,", "3 ham, 1 egg, ", ", 3 ham", "3 ham,, 1 egg",
                     "3 ham, , 1 egg", "3 ham; 1 egg", "3 ham and 1 egg", "3\tham", "3\u00a0ham", "3 ham\n",
                     "\n3 ham", "3 ham,\n1 egg", "3 ham.", "3 ham, nothing", "nothing, 3 ham"):
            self.none(TWO, text)

    def test_nothing_is_written_in_one_way(self):
        for text in ("Nothing", " nothing", "nothing ", "nothing\n", "none", "0", "nothing, nothing", "0 nothing"):
            self.none(TWO, text)
            self.none(["nothing", "x"], text)

    def test_contents_beyond_the_bounds(self):
        self.told([9, 9, 3, 0], read_content, NAMES, "9 ham, 9 egg, 3 salt")
        self.none(NAMES, "9 ham, 9 egg, 4 salt")
        self.none(NAMES, "9 ham, 9 egg, 3 salt, 1 oil")
        self.told([4, 4, 3, 3], read_content, NAMES, "4 ham, 4 egg, 3 salt, 3 oil")
        self.none(NAMES, "4 ham, 4 egg, 4 salt, 3 oil")
        self.none(NAMES, "9 ham, 9 egg, 9 salt, 9 oil")
        self.told([9, 9], read_content, TWO, "9 ham, 9 egg")

    def test_what_is_shown_is_read_back(self):
        for names in (NAMES, WORDS[:4], WORDS[1:]):
            for content in itertools.product((0, 1, 2, 9), repeat=4):
                if sum(number == 9 for number in content) < 2:
                    self.assertEqual(read_content(names, show_content(names, list(content))), list(content))

    def test_told_lists_are_the_asker_s_own(self):
        names = list(TWO)
        first = read_content(names, "1 ham")
        first.append(7)
        second = read_content(names, "nothing")
        second.append(7)
        self.assertEqual(read_content(names, "1 ham"), [1, 0])
        self.assertEqual(read_content(names, "nothing"), [0, 0])
        self.assertEqual(names, TWO)


class ShowShopTest(AskCase):
    def test_the_empty_shop(self):
        self.told([], show_shop, ["ham"], [])

    def test_each_offer(self):
        for offer, row in OFFERS:
            ahead = [] if offer[0] != "add" else [("pack", [1, 1], 5)]
            expected = ["1 ham, 1 egg for 5"] * len(ahead) + [row]
            self.told(expected, show_shop, TWO, ahead + [offer])

    def test_eight_offers(self):
        shop = [("pack", [1, 0], 5)] * 3 + [("add", [0, 1], 4, at % 3) for at in range(5)]
        rows = ["1 ham for 5"] * 3 + [f"with {at % 3}: 1 egg for 4" for at in range(5)]
        self.told(rows, show_shop, TWO, shop)

    def test_names_that_are_words_of_the_texts(self):
        shop = [("pack", [1, 1, 0, 0], 5), ("add", [0, 0, 1, 0], 6, 0), ("many", [2, 2, 2, 2], [(1, 7), (2, 8)])]
        rows = [
            "1 for, 1 many for 5", "with 0: 1 with for 6", "many 2 for, 2 many, 2 with, 2 nothing: 1 for 7, 2 for 8",
        ]
        self.told(rows, show_shop, WORDS[:4], shop)
        self.told(shop, read_shop, WORDS[:4], rows)

    def test_a_shop_with_a_fault_is_refused(self):
        pack = ("pack", [1, 0], 5)
        for place, shop in (
            (0, [("add", [0, 1], 3, 0)]),
            (1, [pack, ("add", [0, 1], 3, 1)]),
            (1, [pack, ("many", [0, 1], [])]),
            (1, [pack, ("many", [0, 1], [(0, 4)])]),
            (2, [pack, pack, ("many", [0, 1], [(1, 4), (1, 4)]), ("add", [0, 1], 3, 9)]),
        ):
            self.assertEqual(self.refused(NoOffer, show_shop, TWO, shop).place, place)


class ReadShopTest(AskCase):
    def none(self, names, row):
        """This row is refused, wherever it stands."""
        self.assertIsNone(plain_offer(names, row), row)
        good = f"1 {names[0]} for 5"
        for ahead in range(3):
            for behind in ([], [good], [row], ["", ""]):
                rows = [good] * ahead + [row] + behind
                self.assertEqual(self.refused(NoText, read_shop, names, rows).row, ahead, row)

    def test_the_empty_shop(self):
        self.told([], read_shop, ["ham"], [])

    def test_each_offer(self):
        for offer, row in OFFERS:
            self.told([offer], read_shop, TWO, [row])
            self.told([("pack", [1, 0], 5), offer, offer], read_shop, TWO, ["1 ham for 5", row, row])

    def test_names_that_are_words_of_the_texts(self):
        self.told([("pack", [3], 250)], read_shop, ["for"], ["3 for for 250"])
        self.told([("add", [3], 250, 0)], read_shop, ["for"], ["with 0: 3 for for 250"])
        self.told([("many", [3], [(1, 2), (3, 4)])], read_shop, ["for"], ["many 3 for: 1 for 2, 3 for 4"])
        self.told([("many", [3], [(1, 2)])], read_shop, ["many"], ["many 3 many: 1 for 2"])
        self.told([("pack", [3], 1)], read_shop, ["many"], ["3 many for 1"])
        self.told([("add", [3], 1, 9)], read_shop, ["with"], ["with 9: 3 with for 1"])
        self.told([("pack", [3], 1)], read_shop, ["nothing"], ["3 nothing for 1"])
        self.told([("pack", [3, 1], 1)], read_shop, ["x", "for"], ["3 x, 1 for for 1"])
        self.none(["for"], "3 for 250")
        self.none(["for", "ham"], "3 ham for for 250")
        self.none(["for", "ham"], "3 for, 250")
        self.none(["nothing"], "nothing for 1")
        self.none(["many"], "many for 1")

    def test_rows_that_look_would_refuse(self):
        for offer, row in (
            (("add", [1, 0], 5, 0), "with 0: 1 ham for 5"),
            (("add", [1, 0], 5, 7), "with 7: 1 ham for 5"),
            (("add", [1, 0], 5, 99), "with 99: 1 ham for 5"),
            (("many", [1, 0], [(2, 5)]), "many 1 ham: 2 for 5"),
            (("many", [1, 0], [(0, 5)]), "many 1 ham: 0 for 5"),
            (("many", [1, 0], [(1, 5), (99, 5)]), "many 1 ham: 1 for 5, 99 for 5"),
            (("many", [1, 0], [(6, 5), (6, 5), (1, 4)]), "many 1 ham: 6 for 5, 6 for 5, 1 for 4"),
        ):
            self.told([offer], read_shop, TWO, [row])
            self.refused(NoOffer, show_shop, TWO, [offer])

    def test_prices(self):
        for price in (0, 1, 10, 100000000000, MOST_PRICE):
            self.told([("pack", [1, 0], price)], read_shop, TWO, [f"1 ham for {price}"])
            self.told([("add", [1, 0], price, 3)], read_shop, TWO, [f"with 3: 1 ham for {price}"])
            self.told([("many", [1, 0], [(1, price)])], read_shop, TWO, [f"many 1 ham: 1 for {price}"])
        for price in ("1000000000000", "0000000000001", "00", "01", "-1", "+1", "1.0", "1,000", "1_000", "", " 1", "1 ",
                      "x", "1e3", "\u0661", "5\u00b2", "nothing", "1 ham", "1\n"):
            self.none(TWO, f"1 ham for {price}")
            self.none(TWO, f"with 0: 1 ham for {price}")
            self.none(TWO, f"many 1 ham: 1 for {price}")
            self.none(TWO, f"many 1 ham: 1 for {price}, 2 for 5")

    def test_places_and_tiers_numbers(self):
        for number in (0, 1, 9, 10, 12, 99):
            self.told([("add", [1, 0], 5, number)], read_shop, TWO, [f"with {number}: 1 ham for 5"])
            self.told([("many", [1, 0], [(number, 5)])], read_shop, TWO, [f"many 1 ham: {number} for 5"])
        for number in ("100", "999", "00", "01", "-1", "+1", "", " 1", "1 ", "x", "\u0661", "1\u00b2", "1.", "1_1"):
            self.none(TWO, f"with {number}: 1 ham for 5")
            self.none(TWO, f"many 1 ham: {number} for 5")
            self.none(TWO, f"many 1 ham: 1 for 5, {number} for 5")

    def test_how_many_tiers(self):
        for number in range(1, 5):
            tiers = [(at + 1, at) for at in range(number)]
            text = ", ".join(f"{begin} for {price}" for begin, price in tiers)
            self.told([("many", [1, 0], tiers)], read_shop, TWO, [f"many 1 ham: {text}"])
        self.none(TWO, "many 1 ham: 1 for 5, 2 for 5, 3 for 5, 4 for 5, 5 for 5")
        self.none(TWO, "many 1 ham: 1 for 5, 2 for 5, 3 for 5, 4 for 5, 5 for 5, 6 for 5")
        for row in ("many 1 ham", "many 1 ham:", "many 1 ham: ", "many 1 ham: nothing", "many 1 ham for 5",
                    "many 1 ham: 5", "many 1 ham: for 5", "many 1 ham: 1 for 5,", "many 1 ham: 1 for 5, "):
            self.none(TWO, row)

    def test_offers_of_nothing(self):
        for row in ("nothing for 5", "many nothing: 1 for 5", "with 0: nothing for 5", "nothing", " for 5", "for 5",
                    "0 ham for 5", "many : 1 for 5", "with 0:  for 5", "with 0: for 5"):
            self.none(TWO, row)

    def test_contents_that_are_no_such_text(self):
        for content in ("1 egg, 1 ham", "1 ham, 1 ham", "1 oil", "0 ham", "01 ham", "10 ham", "1 ham,1 egg", "1  ham",
                        "1 ham ", " 1 ham", "", "ham", "1 ham, nothing", "1 Ham", "\u0661 ham", "1 ham, "):
            self.none(TWO, f"{content} for 5")
            self.none(TWO, f"many {content}: 1 for 5")
            self.none(TWO, f"with 0: {content} for 5")

    def test_contents_beyond_the_bounds(self):
        names = ["ham", "egg", "salt", "oil"]
        for form in ("{} for 5", "many {}: 1 for 5", "with 0: {} for 5"):
            told = read_shop(names, [form.format("9 ham, 9 egg, 3 salt")])
            self.assertEqual(told[0][1], [9, 9, 3, 0])
            self.none(names, form.format("9 ham, 9 egg, 4 salt"))
            self.none(names, form.format("9 ham, 9 egg, 3 salt, 1 oil"))

    def test_a_sign_or_blank_too_many_or_too_few(self):
        for row in ("", " ", "5", "1 ham", "1 ham for", "1 ham for ", "1 ham  for 5", "1 ham for  5", "1 ham for 5 ",
                    " 1 ham for 5", "1 hamfor 5", "1 ham for5", "1 ham FOR 5", "1 ham: 5", "1 ham for 5\n",
                    "1 ham for 5 for 5", "1 ham for 5, 2 for 4", "many", "many ", "many1 ham: 1 for 5",
                    "many  1 ham: 1 for 5", "Many 1 ham: 1 for 5", "many 1 ham:1 for 5", "many 1 ham:  1 for 5",
                    "many 1 ham : 1 for 5", "many 1 ham: 1 for 5,2 for 4", "many 1 ham: 1 for 5,  2 for 4",
                    "many 1 ham: 1 for 5; 2 for 4", "many 1 ham: 1  for 5", "many 1 ham: 1 for 5 ",
                    "many 1 ham: 1 for 5: 2 for 4", " many 1 ham: 1 for 5", "with", "with ", "with 0", "with 0:",
                    "with 0: ", "with 0: 1 ham", "with: 1 ham for 5", "with 0:1 ham for 5", "with 0 1 ham for 5",
                    "with  0: 1 ham for 5", "with 0:  1 ham for 5", "with 0: 1 ham for 5 ", "With 0: 1 ham for 5",
                    "with 0 : 1 ham for 5", "with 0: with 0: 1 ham for 5", "with 0: many 1 ham: 1 for 5",
                    "many with 0: 1 ham for 5", "add 0: 1 ham for 5", "pack 1 ham for 5", "with 0, 1: 1 ham for 5"):
            self.none(TWO, row)

    def test_the_first_such_row_is_told(self):
        rows = ["1 ham for 5", "many 1 egg: 1 for 5", "1 ham for 05", "", "with 0: 1 egg for 5", "x"]
        for at, expected in ((0, 2), (1, 1), (2, 0), (3, 0)):
            self.assertEqual(self.refused(NoText, read_shop, TWO, rows[at:]).row, expected)
        self.assertEqual(self.refused(NoText, read_shop, TWO, ["1 ham for 5"] * 7 + ["1 ham for 5."]).row, 7)

    def test_told_lists_are_the_asker_s_own(self):
        rows = ["many 1 ham: 1 for 5", "many 1 ham: 1 for 5"]
        first = read_shop(TWO, rows)
        first[0][1].append(7)
        first[0][2].append((2, 4))
        self.assertEqual(first[1], ("many", [1, 0], [(1, 5)]))
        self.assertEqual(read_shop(TWO, rows), [("many", [1, 0], [(1, 5)])] * 2)


class BackTest(AskCase):
    def test_what_is_shown_is_read_back(self):
        for most in ((4, 12), (3, MOST_PRICE)):
            for shop, things in some_shops(151, 150, 8, most):
                for names in (NAMES[:things], WORDS[:things], WORDS[-things:]):
                    rows = self.ask(show_shop, names, shop)
                    self.assertTrue(all(isinstance(row, str) for row in rows))
                    self.told(shop, read_shop, names, rows)

    def test_rows_with_a_sign_changed(self):
        chance = random.Random(152)
        signs = "00112359 ,:;ahmegfornx\tA\u0661"
        seen = {True: 0, False: 0}
        for shop, things in some_shops(153, 120, 8, (4, 120)):
            names = WORDS[:things]
            for row in show_shop(names, shop):
                for turn in range(12):
                    at = chance.randrange(len(row) + 1)
                    changed = row[:at] + chance.choice(["", chance.choice(signs)]) + row[at + chance.randint(0, 1):]
                    seen[self.same_as_plain(names, changed)] += 1
        self.assertGreater(min(seen.values()), 500)

    def same_as_plain(self, names, row):
        """Whether the row is read, once it is sure that it is read or refused just as it should be."""
        expected = plain_offer(names, row)
        if expected is None:
            self.assertEqual(self.refused(NoText, read_shop, names, [row]).row, 0)
            return False
        self.assertEqual(repr(read_shop(names, [row])), repr([expected]))
        # What is let by by look is shown as the same row.
        try:
            rows = show_shop(names, [("pack", [1] * len(names), 1), expected])
        except NoOffer:
            return True
        self.assertEqual(rows[1], row)
        return True

    def test_contents_with_a_sign_changed(self):
        chance = random.Random(154)
        signs = "00159 ,hamegsltoin\u00b2"
        seen = {True: 0, False: 0}
        for turn in range(4000):
            text = show_content(NAMES, [chance.choice((0, 1, 2, 4, 9)) for thing in range(4)])
            at = chance.randrange(len(text) + 1)
            text = text[:at] + chance.choice(["", chance.choice(signs)]) + text[at + chance.randint(0, 1):]
            expected = plain_content(NAMES, text)
            seen[expected is not None] += 1
            if expected is None:
                self.assertEqual(self.refused(NoText, read_content, NAMES, text).row, 0)
            else:
                self.assertEqual(read_content(NAMES, text), expected)
                self.assertEqual(show_content(NAMES, expected), text)
        self.assertGreater(min(seen.values()), 100)


if __name__ == "__main__":
    unittest.main()
