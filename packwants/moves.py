"""Stage 6: the least price as the price of a pack that stands alone moves."""

from packwants.least import all_steps
from packwants.ratios import lowest
from packwants.shops import priced_lines
from packwants.spare import without
from packwants.wants import rest


def rests_behind(want, content):
    """What is left of wants behind none, one, two .. of a pack, as far as one more of it still helps."""
    told = [want]
    left = rest(want, content)
    while left != told[-1]:
        told.append(left)
        left = rest(left, content)
    return told


def prices_beside(priced, want, content):
    """What the other lines cost at least beside none, one, two .. of a pack; None where they don't cover the rest."""
    steps = all_steps(priced, want)
    found = [steps[tuple(left)] for left in rests_behind(want, content)]
    return [None if step is None else step[0] for step in found]


def turns_sooner(prices, count, other, best):
    """Whether, from this count on, another one gets as cheap ahead of the best one so far."""
    mine = (prices[other] - prices[count]) * (count - best)
    yours = (prices[best] - prices[count]) * (count - other)
    return mine < yours


def next_count(prices, count):
    """The first lesser count to get as cheap as this one while the pack's price grows, or None."""
    best = None
    # Of several that do so at one point the least one stays: the others are nowhere else as good.
    for other in range(count):
        if prices[other] is not None and (best is None or turns_sooner(prices, count, other, best)):
            best = other
    return best


def moves(shop, want, place):
    """Start, counts and points of the least price as the price of this pack moves, or None."""
    priced = without(priced_lines(shop), place)
    prices = prices_beside(priced, want, shop[place][1])
    # More of the pack leave less to buy: at a price of nought as many as help are best.
    start = prices[-1]
    if start is None:
        return None
    counts = [prices.index(start)]
    points = []
    following = next_count(prices, counts[-1])
    while following is not None:
        points.append(lowest(prices[following] - prices[counts[-1]], counts[-1] - following))
        counts.append(following)
        following = next_count(prices, following)
    return (start, counts, points)
