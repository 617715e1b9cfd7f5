"""Stage 2: shops, the lines that are bought at once, and purchases."""

from packwants.errors import NoOffer

MOST_TIERS = 4
MOST_PIECES = 12


def names_pack(shop, at):
    """Whether the "add" offer at this place names a "pack" ahead of it."""
    place = shop[at][3]
    return 0 <= place < at and shop[place][0] == "pack"


def good_tiers(tiers):
    """Whether a "many" offer can have these tiers."""
    begins = [begin for begin, price in tiers]
    if not 1 <= len(begins) <= MOST_TIERS:
        return False
    if begins[0] != 1 or begins[-1] > MOST_PIECES:
        return False
    return all(low < high for low, high in zip(begins, begins[1:]))


def can_stand(shop, at):
    """Whether the offer at this place is one that a shop can have there."""
    kind = shop[at][0]
    if kind == "add":
        return names_pack(shop, at)
    if kind == "many":
        return good_tiers(shop[at][2])
    return True


def look(shop):
    """Refuse a shop with NoOffer at its first offer that has a fault."""
    for at in range(len(shop)):
        if not can_stand(shop, at):
            raise NoOffer(at)


def adds_to(shop, place):
    """The places of the "add" offers that name this pack, rising."""
    return [at for at, offer in enumerate(shop) if offer[0] == "add" and offer[3] == place]


def choices(places):
    """All choices out of rising places, in the order of lists, each a list of its own."""
    told = [[]]
    for place in reversed(places):
        # The choices that begin with this place stand right behind the empty one,
        # since all places that were taken up so far are greater.
        told = [[]] + [[place] + chosen for chosen in told] + told[1:]
    return told


def lines_at(shop, place):
    """The lines of the offer at this place, in order."""
    kind = shop[place][0]
    if kind == "pack":
        return [(place, 1, adds) for adds in choices(adds_to(shop, place))]
    if kind == "many":
        return [(place, count, []) for count in range(1, MOST_PIECES + 1)]
    return []


def lines(shop):
    """All lines of a shop, by places, then counts, then adds."""
    look(shop)
    return [line for place in range(len(shop)) for line in lines_at(shop, place)]


def together(content, other):
    """The sum of two contents."""
    return [number + more for number, more in zip(content, other)]


def content_of(shop, line):
    """The content of a line of a shop that has been looked at."""
    place, count, adds = line
    content = [count * number for number in shop[place][1]]
    for add in adds:
        content = together(content, shop[add][1])
    return content


def piece_price(tiers, count):
    """What each one of so many pieces costs."""
    return [price for begin, price in tiers if begin <= count][-1]


def price_of(shop, line):
    """The price of a line of a shop that has been looked at."""
    place, count, adds = line
    offer = shop[place]
    if offer[0] == "many":
        return count * piece_price(offer[2], count)
    return offer[2] + sum(shop[add][2] for add in adds)


def priced_lines(shop):
    """All lines of a shop in order, each as a tuple (line, content, price)."""
    return [(line, content_of(shop, line), price_of(shop, line)) for line in lines(shop)]


def line_content(shop, line):
    """The sum of what a line of the shop has."""
    look(shop)
    return content_of(shop, line)


def line_price(shop, line):
    """What a line of the shop costs."""
    look(shop)
    return price_of(shop, line)


def bought(shop, purchase):
    """The content and the price of a purchase."""
    look(shop)
    content = [0] * len(shop[0][1]) if shop else []
    price = 0
    for line in purchase:
        content = together(content, content_of(shop, line))
        price += price_of(shop, line)
    return (content, price)
