"""Stage 4: prices of single things, and shares of lines that show that no fair ones come to more."""

from packwants.ratios import lowest, over_one_bottom
from packwants.shops import priced_lines
from packwants.simplex import greatest


def products(numbers, tops):
    """The sum of the products."""
    return sum(number * top for number, top in zip(numbers, tops))


def none_undercuts(priced, tops, bottom):
    """Whether no line costs less than its content at the prices with these tops over the bottom."""
    return all(products(content, tops) <= price * bottom for line, content, price in priced)


def fair(shop, prices):
    """Whether each line's content at these single prices comes to no more than the line's price."""
    priced = priced_lines(shop)
    tops, bottom = over_one_bottom(prices)
    return none_undercuts(priced, tops, bottom)


def all_sold(priced, want):
    """Whether each thing that is wanted is in some line."""
    for thing, number in enumerate(want):
        if number > 0 and not any(content[thing] > 0 for line, content, price in priced):
            return False
    return True


def single_prices(shop, want):
    """Value, single prices and shares of lines for wants, or None where a wanted thing is in no line."""
    priced = priced_lines(shop)
    if not all_sold(priced, want):
        return None
    worth, tops, parts, bottom = greatest(want, [(content, price) for line, content, price in priced])
    prices = [lowest(top, bottom) for top in tops]
    shares = [(row[0], lowest(part, bottom)) for row, part in zip(priced, parts) if part > 0]
    return (lowest(worth, bottom), prices, shares)


def comes_to(top, bottom, value):
    """Whether a top over a bottom is the value."""
    return top * value[1] == value[0] * bottom


def prices_hold(priced, want, value, prices):
    """Whether these are fair single prices at which the wants come to the value."""
    tops, bottom = over_one_bottom(prices)
    if len(tops) != len(want) or any(top < 0 for top in tops):
        return False
    return none_undercuts(priced, tops, bottom) and comes_to(products(want, tops), bottom, value)


def rows_taken(priced, taken):
    """The rows of the lines that are taken; None unless these are unlike lines of the shop, in order."""
    known = {(place, count, tuple(adds)): (content, price) for (place, count, adds), content, price in priced}
    rows = [known.get((place, count, tuple(adds))) for place, count, adds in taken]
    if any(row is None for row in rows):
        return None
    if not all(low < high for low, high in zip(taken, taken[1:])):
        return None
    return rows


def shares_hold(priced, want, value, shares):
    """Whether the shares of lines cover the wants and come to the value."""
    rows = rows_taken(priced, [line for line, share in shares])
    tops, bottom = over_one_bottom([share for line, share in shares])
    if rows is None or not all(top > 0 for top in tops):
        return False
    for thing, number in enumerate(want):
        if products([content[thing] for content, price in rows], tops) < number * bottom:
            return False
    return comes_to(products([price for content, price in rows], tops), bottom, value)


def hold_together(shop, want, told):
    """Whether value, single prices and shares are as single_prices tells them."""
    priced = priced_lines(shop)
    value, prices, shares = told
    fractions = [value, *prices] + [share for line, share in shares]
    if any(bottom < 1 for top, bottom in fractions):
        return False
    return prices_hold(priced, want, value, prices) and shares_hold(priced, want, value, shares)
