"""Stage 7: contents and shops as texts, shown and read."""

from packwants.errors import NoText
from packwants.shops import MOST_TIERS, look

FIGURES = "0123456789"
SMALL_LETTERS = "abcdefghijklmnopqrstuvwxyz"
MOST_THINGS = 4
MOST_LETTERS = 8
MOST_LESSER = 400
THING_FIGURES = 1
PLACE_FIGURES = 2
PRICE_FIGURES = 12


def show_content(names, content):
    """Contents as the things that are there, by their numbers."""
    parts = [f"{number} {name}" for number, name in zip(content, names) if number > 0]
    return ", ".join(parts) or "nothing"


def show_offer(names, offer):
    """An offer as a row."""
    content = show_content(names, offer[1])
    if offer[0] == "many":
        tiers = ", ".join([f"{begin} for {price}" for begin, price in offer[2]])
        return f"many {content}: {tiers}"
    if offer[0] == "add":
        return f"with {offer[3]}: {content} for {offer[2]}"
    return f"{content} for {offer[2]}"


def show_shop(names, shop):
    """A shop as a list of rows."""
    look(shop)
    return [show_offer(names, offer) for offer in shop]


def made_of(signs, text, most):
    """Whether a text is made of one to so many of these signs."""
    return 1 <= len(text) <= most and all(sign in signs for sign in text)


def read_number(text, figures):
    """The number that a text of at most so many figures tells."""
    # Refusals here and below are of a row on its own; read_shop tells which one of several it is.
    if not made_of(FIGURES, text, figures) or (text[0] == "0" and text != "0"):
        raise NoText(0)
    return int(text)


def read_names(text):
    """The names of things in a text, with a blank between."""
    names = text.split(" ")
    if len(names) > MOST_THINGS or len(set(names)) < len(names):
        raise NoText(0)
    if not all(made_of(SMALL_LETTERS, name, MOST_LETTERS) for name in names):
        raise NoText(0)
    return names


def within_bounds(content):
    """Whether contents have no more lesser ones than contents may have."""
    many = 1
    for number in content:
        many *= number + 1
    return many <= MOST_LESSER


def read_thing(names, text):
    """A thing's place among the names, and how many of it there are."""
    figures, blank, name = text.partition(" ")
    if name not in names:
        raise NoText(0)
    return (names.index(name), read_number(figures, THING_FIGURES))


def read_content(names, text):
    """The contents that a text tells."""
    content = [0] * len(names)
    if text == "nothing":
        return content
    for part in text.split(", "):
        thing, number = read_thing(names, part)
        content[thing] = number
    # Things out of order, told twice or told with a nought are shown otherwise.
    if show_content(names, content) != text or not within_bounds(content):
        raise NoText(0)
    return content


def read_goods(names, text):
    """The contents of an offer, which are not nothing."""
    content = read_content(names, text)
    if not any(content):
        raise NoText(0)
    return content


def read_sold(names, text):
    """The contents and the price of an offer with one price."""
    # A thing may be named "for": the last such word is the one ahead of the price.
    goods, word, price = text.rpartition(" for ")
    return (read_goods(names, goods), read_number(price, PRICE_FIGURES))


def read_tier(text):
    """A tier of a "many" offer."""
    begin, word, price = text.partition(" for ")
    return (read_number(begin, PLACE_FIGURES), read_number(price, PRICE_FIGURES))


def read_many(names, text):
    """A "many" offer, from behind its first word on."""
    goods, colon, tiers = text.partition(": ")
    parts = tiers.split(", ")
    if len(parts) > MOST_TIERS:
        raise NoText(0)
    return ("many", read_goods(names, goods), [read_tier(part) for part in parts])


def read_add(names, text):
    """An "add" offer, from behind its first word on."""
    place, colon, sold = text.partition(": ")
    content, price = read_sold(names, sold)
    return ("add", content, price, read_number(place, PLACE_FIGURES))


def read_offer(names, text):
    """The offer that a row tells."""
    if text.startswith("many "):
        return read_many(names, text.removeprefix("many "))
    if text.startswith("with "):
        return read_add(names, text.removeprefix("with "))
    content, price = read_sold(names, text)
    return ("pack", content, price)


def read_shop(names, rows):
    """The shop that rows tell."""
    shop = []
    for at, row in enumerate(rows):
        try:
            shop.append(read_offer(names, row))
        except NoText:
            raise NoText(at) from None
    return shop
