"""Stage 7: a desk that keeps names and a shop, and answers the lines that it is told."""

from packwants.errors import NoLine, NoOffer, NoPlace, NoText, NoThings
from packwants.least import least
from packwants.prices import single_prices
from packwants.shops import look
from packwants.spare import spared
from packwants.texts import PLACE_FIGURES, read_content, read_names, read_number, read_offer, show_shop

MOST_OFFERS = 8


def tell_cost(shop, want):
    """The least price of wants, or none."""
    told = least(shop, want)
    return "none" if told is None else str(told[0])


def show_line(shop, line):
    """A line of a purchase."""
    place, count, adds = line
    if shop[place][0] == "many":
        return f"{place} x {count}"
    return " + ".join([str(at) for at in [place, *adds]])


def tell_buy(shop, want):
    """The purchase for wants, nothing where none is needed, or none."""
    told = least(shop, want)
    if told is None:
        return "none"
    return "; ".join([show_line(shop, line) for line in told[1]]) or "nothing"


def tell_value(shop, want):
    """The value of wants at single prices, or none."""
    told = single_prices(shop, want)
    if told is None:
        return "none"
    top, bottom = told[0]
    return f"{top}/{bottom}"


def tell_spare(shop):
    """The places of the spared packs, or none."""
    return " ".join([str(place) for place, purchase in spared(shop)]) or "none"


def tell_shop(names, shop):
    """The offers, or none."""
    return " | ".join(show_shop(names, shop)) or "none"


WORDS = ("things", "offer", "drop", "shop", "cost", "buy", "value", "spare")
WORDS_ALONE = ("shop", "spare")
QUESTIONS = {"cost": tell_cost, "buy": tell_buy, "value": tell_value}


class Desk:
    """Keeps names of things and a shop."""

    def __init__(self):
        self.names = None
        self.shop = []

    def say(self, line):
        """The answer to a line."""
        word, blank, text = line.partition(" ")
        if word not in WORDS:
            raise NoLine(f"no line begins with {word!r}")
        if self.names is None and word != "things":
            raise NoThings(f"no things are named ahead of {line!r}")
        if word in WORDS_ALONE and blank:
            raise NoLine(f"{word} stands alone, not as in {line!r}")
        try:
            return self.answer(word, text)
        except NoText:
            raise NoLine(f"what is behind {word} in {line!r} can't be read") from None

    def answer(self, word, text):
        """The answer to a line with this first word, and this text behind it."""
        if word == "things":
            return self.take_names(read_names(text))
        if word == "offer":
            return self.put_last(read_offer(self.names, text))
        if word == "drop":
            return self.drop_last(read_number(text, PLACE_FIGURES))
        if word == "shop":
            return tell_shop(self.names, self.shop)
        if word == "spare":
            return tell_spare(self.shop)
        question = QUESTIONS[word]
        return question(self.shop, read_content(self.names, text))

    def take_names(self, names):
        """Take these names, and an empty shop."""
        self.names = names
        self.shop = []
        return "ok"

    def put_last(self, offer):
        """Let an offer stand in the shop, last."""
        if len(self.shop) >= MOST_OFFERS:
            raise NoOffer(MOST_OFFERS)
        shop = [*self.shop, offer]
        look(shop)
        self.shop = shop
        return "ok"

    def drop_last(self, place):
        """Take out the last offer, whose place this must be."""
        if place != len(self.shop) - 1:
            raise NoPlace(f"{place} is not the last offer's place")
        self.shop = self.shop[:-1]
        return "ok"
