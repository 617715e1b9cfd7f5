"""Stage 5: packs that can be spared, and the shop without them."""

from packwants.least import cheapest
from packwants.shops import adds_to, priced_lines


def without(priced, place):
    """The lines that are not of the offer at this place."""
    return [row for row in priced if row[0][0] != place]


def instead(shop, priced, place):
    """The cheapest purchase of other lines by which the offer can be spared; None if it is needed or has adds."""
    if shop[place][0] != "pack" or adds_to(shop, place):
        return None
    found = cheapest(without(priced, place), shop[place][1])
    if found is None or found[0] > shop[place][2]:
        return None
    return found[1]


def spared(shop):
    """The packs that stand alone and can be spared, all others being there: tuples (place, purchase)."""
    priced = priced_lines(shop)
    told = []
    for place in range(len(shop)):
        purchase = instead(shop, priced, place)
        if purchase is not None:
            told.append((place, purchase))
    return told


def offer_left(offer, places):
    """An offer of the whole shop as it stands in the shop of these places alone."""
    if offer[0] == "add":
        return ("add", list(offer[1]), offer[2], places.index(offer[3]))
    if offer[0] == "many":
        return ("many", list(offer[1]), list(offer[2]))
    return ("pack", list(offer[1]), offer[2])


def thinned(shop):
    """The shop without the packs that can be spared, the last first, and the places of what is left."""
    priced = priced_lines(shop)
    places = list(range(len(shop)))
    for place in reversed(range(len(shop))):
        if instead(shop, priced, place) is not None:
            places.remove(place)
            priced = without(priced, place)
    return ([offer_left(shop[place], places) for place in places], places)
