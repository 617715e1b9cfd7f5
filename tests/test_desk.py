"""Point 16: the desk, its lines, and what each is refused with."""

import random
import re
import unittest

from packwants.desk import Desk
from packwants.errors import NoLine, NoOffer, NoPlace, NoText, NoThings, PackError
from packwants.least import least
from packwants.prices import single_prices
from packwants.shops import look
from packwants.spare import spared
from packwants.texts import read_shop, show_content, show_shop
from tests.helper import MOST_PRICE, plain_content, plain_offer, some_shops

REFUSALS = (NoOffer, NoText, NoLine, NoPlace, NoThings)
FIRST_WORDS = ("things", "offer", "drop", "shop", "cost", "buy", "value", "spare")
ROWS = ("3 ham, 1 egg for 250", "with 0: 2 egg for 30", "many 1 ham: 1 for 100, 6 for 80")


class DeskCase(unittest.TestCase):
    def setUp(self):
        self.desk = Desk()

    def tell(self, *pairs):
        """Say lines, and hold each answer against what is expected."""
        for line, expected in pairs:
            answer = self.desk.say(line)
            self.assertIs(type(answer), str)
            self.assertEqual(answer, expected, line)

    def begin(self, names="ham egg", rows=ROWS):
        self.tell((f"things {names}", "ok"), *[(f"offer {row}", "ok") for row in rows])

    def refused(self, error, *lines):
        """The last refusal, once it is sure that each is of this very class alone and changes nothing."""
        for line in lines:
            before = self.state()
            with self.assertRaises(error, msg=repr(line)) as caught:
                self.desk.say(line)
            self.assertIs(caught.exception.__class__, error, line)
            self.assertIsInstance(caught.exception, PackError)
            self.assertIsInstance(caught.exception, ValueError)
            self.assertEqual([kind for kind in REFUSALS if isinstance(caught.exception, kind)], [error])
            self.assertEqual(self.state(), before, line)
        return caught.exception

    def state(self):
        """What the desk tells of its names and its shop."""
        try:
            return [self.desk.say("shop"), self.desk.say("cost nothing"), self.desk.say("spare")]
        except NoThings:
            return None


class AnswerTest(DeskCase):
    def test_things(self):
        self.tell(("things ham", "ok"), ("shop", "none"))
        self.tell(("things ham egg", "ok"), ("things a b c d", "ok"), ("things abcdefgh ijklmnop", "ok"))
        self.tell(("offer 2 ijklmnop for 5", "ok"), ("shop", "2 ijklmnop for 5"))

    def test_things_may_be_named_by_the_words_of_lines_and_texts(self):
        self.tell(("things things offer drop shop", "ok"), ("offer 1 offer, 2 drop for 3", "ok"))
        self.tell(("shop", "1 offer, 2 drop for 3"), ("cost 2 offer", "6"), ("buy 1 drop", "0"))
        self.tell(("things for many with nothing", "ok"), ("offer many 1 for, 2 many: 1 for 7, 2 for 5", "ok"))
        self.tell(("shop", "many 1 for, 2 many: 1 for 7, 2 for 5"), ("cost 1 for", "7"), ("cost nothing", "0"))
        self.tell(("things x ok none", "ok"), ("offer 1 x for 5", "ok"), ("buy 1 x", "0"), ("buy 1 none", "none"))

    def test_things_makes_the_shop_empty(self):
        self.begin()
        self.tell(("things ham egg", "ok"), ("shop", "none"), ("cost 1 ham", "none"), ("buy 1 ham", "none"))
        self.tell(("offer 1 egg for 5", "ok"), ("shop", "1 egg for 5"))

    def test_names_from_now_on(self):
        self.begin()
        self.tell(("things egg oil", "ok"), ("offer 1 egg, 2 oil for 5", "ok"), ("cost 1 egg", "5"))
        self.refused(NoLine, "cost 1 ham", "offer 1 ham for 5")

    def test_offer_and_shop(self):
        self.begin(rows=())
        self.tell(("shop", "none"))
        for at, row in enumerate(ROWS):
            self.tell((f"offer {row}", "ok"), ("shop", " | ".join(ROWS[:at + 1])))

    def test_eight_offers(self):
        rows = ["1 ham for 5"] + [f"with 0: 1 egg for {at}" for at in range(7)]
        self.begin(rows=rows)
        self.tell(("shop", " | ".join(rows)))
        self.assertEqual(self.refused(NoOffer, "offer 1 ham for 5").place, 8)
        self.tell(("drop 7", "ok"), ("offer 9 egg for 0", "ok"), ("shop", " | ".join(rows[:7] + ["9 egg for 0"])))

    def test_drop(self):
        self.begin()
        self.tell(("drop 2", "ok"), ("shop", " | ".join(ROWS[:2])), ("drop 1", "ok"), ("shop", ROWS[0]))
        self.tell(("offer 1 egg for 7", "ok"), ("drop 1", "ok"), ("drop 0", "ok"), ("shop", "none"))
        self.tell(("offer 1 egg for 7", "ok"), ("shop", "1 egg for 7"))

    def test_cost(self):
        self.begin()
        self.tell(("cost nothing", "0"), ("cost 1 ham", "100"), ("cost 4 ham, 2 egg", "380"), ("cost 5 ham", "450"))
        self.tell(("cost 1 egg", "250"), ("things ham egg", "ok"), ("cost nothing", "0"), ("cost 1 egg", "none"))
        self.tell(("offer 1 ham for 999999999999", "ok"), ("cost 9 ham", str(9 * MOST_PRICE)), ("cost 1 egg", "none"))

    def test_buy(self):
        self.begin()
        self.tell(("buy nothing", "nothing"), ("buy 3 ham, 1 egg", "0"), ("buy 3 ham, 3 egg", "0 + 1"))
        self.tell(("buy 1 ham", "2 x 1"), ("buy 4 ham, 2 egg", "0 + 1; 2 x 1"), ("buy 6 ham, 4 egg", "0; 0 + 1"))
        self.tell(("things ham egg", "ok"), ("buy nothing", "nothing"), ("buy 1 ham", "none"))

    def test_buy_many(self):
        self.begin(rows=["many 1 ham: 1 for 9, 6 for 1", "many 1 egg: 1 for 2, 2 for 7, 12 for 8"])
        self.tell(("buy 1 ham", "0 x 6"), ("buy 7 ham", "0 x 7"), ("buy 2 egg", "1 x 1; 1 x 1"))
        self.tell(("buy 5 ham, 1 egg", "0 x 6; 1 x 1"), ("cost 5 ham, 1 egg", "8"))
        self.begin("ham", ["many 1 ham: 1 for 50, 12 for 1"])
        self.tell(("buy 1 ham", "0 x 12"))

    def test_buy_adds(self):
        rows = ["1 ham for 9", "9 ham for 9", "with 0: 1 egg for 1", "with 0: 1 salt for 1", "with 0: 1 oil for 1"]
        self.begin("ham egg salt oil", rows)
        self.tell(("buy 1 egg", "0 + 2"), ("buy 1 egg, 1 oil", "0 + 2 + 4"))
        self.tell(("buy 1 egg, 1 salt, 1 oil", "0 + 2 + 3 + 4"))
        self.tell(("buy 1 egg, 2 oil", "0 + 2 + 4; 0 + 4"), ("buy 9 ham", "1"), ("buy 9 ham, 1 salt", "0 + 3; 1"))

    def test_value(self):
        self.begin()
        self.tell(("value 4 ham, 2 egg", "1030/3"), ("value nothing", "0/1"), ("value 1 ham", "80/1"))
        self.tell(("things ham egg", "ok"), ("value nothing", "0/1"), ("value 1 egg", "none"))
        self.tell(("offer 7 egg for 999999999999", "ok"), ("value 1 egg", "142857142857/1"), ("value 1 ham", "none"))
        self.tell(("offer 2 ham for 5", "ok"), ("value 1 ham", "5/2"), ("value 2 ham", "5/1"))

    def test_spare(self):
        self.begin(rows=())
        self.tell(("spare", "none"), ("offer 2 ham for 90", "ok"), ("spare", "none"), ("offer 1 ham for 40", "ok"))
        self.tell(("spare", "0"), ("offer 2 ham for 90", "ok"), ("spare", "0 2"), ("offer 1 ham for 40", "ok"))
        self.tell(("spare", "0 1 2 3"), ("offer with 1: 1 egg for 0", "ok"), ("spare", "0 2 3"))
        self.tell(("drop 4", "ok"), ("drop 3", "ok"), ("drop 2", "ok"), ("drop 1", "ok"), ("spare", "none"))

    def test_a_question_a_change_and_the_same_question_again(self):
        self.begin(rows=["1 ham for 10"])
        self.tell(("cost 4 ham", "40"), ("buy 4 ham", "0; 0; 0; 0"), ("value 4 ham", "40/1"), ("spare", "none"))
        self.tell(("cost 4 ham", "40"), ("offer 4 ham for 15", "ok"), ("cost 4 ham", "15"), ("buy 4 ham", "1"))
        self.tell(("value 4 ham", "15/1"), ("spare", "none"), ("drop 1", "ok"), ("cost 4 ham", "40"))
        self.tell(("value 4 ham", "40/1"), ("things ham", "ok"), ("cost 4 ham", "none"), ("value 4 ham", "none"))

    def test_two_desks_beside_each_other(self):
        self.begin()
        other = Desk()
        with self.assertRaises(NoThings):
            other.say("shop")
        self.assertEqual(other.say("things ham"), "ok")
        self.assertEqual(other.say("shop"), "none")
        self.assertEqual(other.say("offer 1 ham for 1"), "ok")
        self.tell(("shop", " | ".join(ROWS)), ("cost 1 ham", "100"), ("drop 2", "ok"))
        self.assertEqual(other.say("cost 1 ham"), "1")
        self.assertEqual(other.say("shop"), "1 ham for 1")

    def test_as_the_functions_tell(self):
        names = ["ham", "egg", "salt", "oil"]
        for shop, things in some_shops(161, 80):
            rows = show_shop(names[:things], shop)
            self.begin(" ".join(names[:things]), rows)
            spare = [str(place) for place, purchase in spared(shop)]
            self.tell(("shop", " | ".join(rows) or "none"), ("spare", " ".join(spare) or "none"))
            for want in ([0, 0, 0, 0], [1, 0, 2, 0], [3, 3, 1, 2], [0, 5, 0, 1]):
                self.check_questions(names, shop, want[:things])

    def check_questions(self, names, shop, want):
        text = show_content(names, want)
        told = least(shop, want)
        self.tell((f"cost {text}", "none" if told is None else str(told[0])))
        self.tell((f"buy {text}", plain_buy(shop, told)))
        told = single_prices(shop, want)
        self.tell((f"value {text}", "none" if told is None else f"{told[0][0]}/{told[0][1]}"))


class NoLineTest(DeskCase):
    STRANGE = (
        "", " ", "  ", "thing ham", "Things ham", "THINGS ham", " things ham", "\tthings ham", "things\tham",
        "things\nham", "things,ham", "thingsham", "offers 1 ham for 5", " offer 1 ham for 5", "drops 0", "drop\t0",
        "shop\n", " shop", "shops", "Shop", "shop;", "costs 1 ham", " cost 1 ham", "buys 1 ham", "values 1 ham",
        "spared", " spare", "spare\n", "none", "ok", "quit", "help", "0", "1 ham for 5", "many 1 ham: 1 for 5",
    )

    def test_a_first_word_that_is_none_of_these(self):
        # Ahead of the first things line, too.
        self.refused(NoLine, *self.STRANGE)
        self.begin()
        self.refused(NoLine, *self.STRANGE)

    def test_names(self):
        lines = (
            "things", "things ", "things  ", "things  ham", "things ham ", "things ham  egg", "things Ham",
            "things hAm", "things ham1", "things 1", "things h-m", "things ham,egg", "things ham, egg",
            "things abcdefghi", "things ham abcdefghi",
            "things ham ham", "things ham egg ham", "things a b c d e", "things a b c d a",
            "things a b c d ", "things h\u00e4m", "things \u00df", "things \u03b1", "things ham\n", "things ham\tegg",
            "things _", "things ha_m",
        )
        # A refused things line is no first things line.
        self.refused(NoLine, *lines)
        self.refused(NoThings, "shop")
        self.begin()
        self.refused(NoLine, *lines)
        self.tell(("shop", " | ".join(ROWS)), ("cost 1 ham", "100"))

    def test_offers(self):
        self.begin()
        self.refused(
            NoLine, "offer", "offer ", "offer  1 ham for 5", "offer 1 ham for 5 ", "offer 1 ham", "offer 1 oil for 5",
            "offer 0 ham for 5", "offer 10 ham for 5", "offer 1 egg, 1 ham for 5", "offer nothing for 5",
            "offer 1 ham for 05", "offer 1 ham for 1000000000000", "offer many 1 ham", "offer many 1 ham: ",
            "offer many 1 ham: 100 for 5", "offer many 1 ham: 1 for 5, 2 for 5, 3 for 5, 4 for 5, 5 for 5",
            "offer with 100: 1 ham for 5", "offer with 00: 1 ham for 5", "offer with -1: 1 ham for 5",
            "offer with: 1 ham for 5", "offer offer 1 ham for 5", "offer 1 ham for 5 | 1 ham for 5",
        )

    def test_contents(self):
        self.begin("ham egg salt oil", ["1 ham for 5"])
        for word in ("cost", "buy", "value"):
            for text in ("", " ", "  1 ham", " 1 ham ", " 1  ham", " 0 ham", " 10 ham", " 01 ham", " ham", " 1 pie",
                         " 1 egg, 1 ham", " 1 ham, 1 ham", " 1 ham,1 egg", " 1 ham, nothing", " nothing ", " none",
                         " \u0661 ham", " 1 ham for 5", " 9 ham, 9 egg, 4 salt", " 4 ham, 4 egg, 4 salt, 3 oil"):
                self.refused(NoLine, word + text)
        self.tell(("cost 9 ham, 9 egg, 3 salt", "none"), ("buy 9 ham", "; ".join("0" * 9)))

    def test_places(self):
        self.begin()
        self.refused(
            NoLine, "drop", "drop ", "drop  2", "drop 2 ", "drop 02", "drop 00", "drop 002", "drop 100", "drop -1",
            "drop +2", "drop 2.", "drop two", "drop 2 2", "drop 2, 1", "drop \u0662", "drop 1\u00b2", "drop 2\n",
        )

    def test_words_that_stand_alone(self):
        self.begin()
        for word in ("shop", "spare"):
            for behind in ("", " ", "1", "none", word, "1 ham"):
                self.refused(NoLine, f"{word} {behind}")


class NoThingsTest(DeskCase):
    LINES = (
        "shop", "spare", "cost nothing", "cost 1 ham", "buy 1 ham", "value 1 ham", "offer 1 ham for 5", "drop 0",
        # Otherwise none of these, but this comes first.
        "offer", "offer ", "offer x", "offer with 9: 1 ham for 5", "drop", "drop x", "drop 100", "cost", "cost ", "buy",
        "value", "shop ", "shop x", "spare ", "spare x", "cost things ham",
    )

    def test_ahead_of_the_first_things_line(self):
        self.refused(NoThings, *self.LINES)
        self.tell(("things ham", "ok"), ("shop", "none"))

    def test_not_behind_it(self):
        self.tell(("things ham", "ok"))
        for line in self.LINES:
            try:
                self.desk.say(line)
            except PackError as refusal:
                self.assertNotIsInstance(refusal, NoThings)


class NoOfferTest(DeskCase):
    def test_the_place_that_the_offer_would_have(self):
        self.begin(rows=())
        self.assertEqual(self.refused(NoOffer, "offer with 0: 1 ham for 5").place, 0)
        self.assertEqual(self.refused(NoOffer, "offer many 1 ham: 2 for 5").place, 0)
        self.begin()
        for row in ("with 1: 1 ham for 5", "with 2: 1 ham for 5", "with 3: 1 ham for 5", "with 4: 1 ham for 5",
                    "with 99: 1 ham for 5", "many 1 ham: 0 for 5", "many 1 ham: 2 for 5",
                    "many 1 ham: 1 for 5, 1 for 4", "many 1 ham: 1 for 5, 13 for 4",
                    "many 1 ham: 1 for 5, 6 for 4, 5 for 3"):
            self.assertEqual(self.refused(NoOffer, f"offer {row}").place, 3, row)
        self.tell(("offer with 0: 1 ham for 5", "ok"))
        self.assertEqual(self.refused(NoOffer, "offer with 3: 1 ham for 5").place, 4)

    def test_where_eight_stand(self):
        self.begin(rows=["1 ham for 5"] * 8)
        for row in ("1 ham for 5", "with 0: 1 ham for 5", "with 9: 1 ham for 5", "many 1 ham: 2 for 5"):
            self.assertEqual(self.refused(NoOffer, f"offer {row}").place, 8)
        # What is not read comes first.
        self.refused(NoLine, "offer 1 oil for 5", "offer", "offer 1 ham for 05")


class NoPlaceTest(DeskCase):
    def test_a_place_that_is_not_the_last(self):
        self.begin(rows=())
        self.refused(NoPlace, "drop 0", "drop 1", "drop 99")
        self.begin()
        self.refused(NoPlace, "drop 0", "drop 1", "drop 3", "drop 7", "drop 8", "drop 10", "drop 99")
        self.tell(("drop 2", "ok"))
        self.refused(NoPlace, "drop 2", "drop 0")


def plain_buy(shop, told):
    if told is None:
        return "none"
    lines = []
    for place, count, adds in told[1]:
        behind = f" x {count}" if shop[place][0] == "many" else "".join(f" + {add}" for add in adds)
        lines.append(str(place) + behind)
    return "; ".join(lines) if lines else "nothing"


class PlainDesk:
    """A desk by the words of point 16: it answers with a text, or with a refusal's class and place."""

    def __init__(self):
        self.names = None
        self.offers = []

    def say(self, line):
        word = line.split(" ")[0]
        if word not in FIRST_WORDS:
            return (NoLine, None)
        if self.names is None and word != "things":
            return (NoThings, None)
        behind = line[len(word) + 1:]
        if word in ("shop", "spare"):
            return getattr(self, word)() if line == word else (NoLine, None)
        return getattr(self, word)(behind)

    def things(self, text):
        names = re.findall("[^ ]+", text)
        if " ".join(names) != text or len(set(names)) != len(names) or len(names) not in (1, 2, 3, 4):
            return (NoLine, None)
        if not all(re.fullmatch("[a-z]{1,8}", name) for name in names):
            return (NoLine, None)
        self.names, self.offers = names, []
        return "ok"

    def offer(self, text):
        offer = plain_offer(self.names, text)
        if offer is None:
            return (NoLine, None)
        if len(self.offers) == 8:
            return (NoOffer, 8)
        try:
            look(self.offers + [offer])
        except NoOffer:
            return (NoOffer, len(self.offers))
        self.offers.append(offer)
        return "ok"

    def drop(self, text):
        if not re.fullmatch("0|[1-9][0-9]?", text):
            return (NoLine, None)
        if not self.offers or int(text) != len(self.offers) - 1:
            return (NoPlace, None)
        self.offers.pop()
        return "ok"

    def shop(self):
        return " | ".join(show_shop(self.names, self.offers)) or "none"

    def asked(self, text, function):
        want = plain_content(self.names, text)
        return (NoLine, None) if want is None else function(want)

    def cost(self, text):
        return self.asked(text, lambda want: str((least(self.offers, want) or ["none"])[0]))

    def buy(self, text):
        return self.asked(text, lambda want: plain_buy(self.offers, least(self.offers, want)))

    def value(self, text):
        def told(want):
            found = single_prices(self.offers, want)
            return "none" if found is None else "/".join(str(number) for number in found[0])
        return self.asked(text, told)

    def spare(self):
        return " ".join(str(place) for place, purchase in spared(self.offers)) or "none"


class ManyLinesTest(unittest.TestCase):
    LINES = (
        "things ham egg", "things egg ham oil", "things ham", "things x for", "offer 3 ham, 1 egg for 25",
        "offer 1 ham for 9", "offer 1 ham for 3", "offer 2 egg for 8", "offer with 0: 2 egg for 3",
        "offer with 1: 1 ham for 2", "offer many 1 ham: 1 for 10, 6 for 8", "offer many 1 egg: 1 for 4, 3 for 5",
        "offer 1 for for 5", "drop 0", "drop 1", "drop 2", "drop 3", "drop 4", "shop", "shop", "spare", "spare",
        "cost 2 ham, 1 egg", "cost nothing", "cost 1 for", "buy 3 ham, 2 egg", "buy 2 ham", "buy nothing",
        "value 1 ham, 2 egg", "value 1 egg", "value 1 x",
    )

    def test_lines_with_and_without_a_sign_changed(self):
        chance = random.Random(162)
        seen = {}
        for turn in range(250):
            desk, plain = Desk(), PlainDesk()
            for number in range(40):
                line = chance.choice(self.LINES if number else self.LINES[:2] + self.LINES[-3:])
                if chance.random() < 0.2:
                    at = chance.randrange(len(line) + 1)
                    line = line[:at] + chance.choice(["", *" 0159,:ham"]) + line[at + chance.randint(0, 1):]
                expected = plain.say(line)
                self.assertEqual(self.said(desk, line), expected, line)
                kind = expected[0] if isinstance(expected, tuple) else line.split(" ")[0]
                seen[kind] = seen.get(kind, 0) + 1
        for kind in FIRST_WORDS + (NoLine, NoThings, NoOffer, NoPlace):
            self.assertGreater(seen[kind], 50, kind)

    def said(self, desk, line):
        try:
            return desk.say(line)
        except PackError as refusal:
            return (refusal.__class__, getattr(refusal, "place", None))

    def test_rows_of_the_shop_line_are_read_back(self):
        desk = Desk()
        names = ["ham", "egg"]
        desk.say("things ham egg")
        for row in ROWS:
            desk.say(f"offer {row}")
        rows = desk.say("shop").split(" | ")
        self.assertEqual(show_shop(names, read_shop(names, rows)), list(ROWS))


if __name__ == "__main__":
    unittest.main()
