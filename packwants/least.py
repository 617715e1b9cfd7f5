"""Stage 3: the least price, by cases from lesser wants to greater ones."""

from packwants.shops import priced_lines
from packwants.wants import lesser, rest


def best_step(less, priced, steps):
    """The least price of wants with a line to buy first, the steps of all lesser ones being there; or None."""
    best = None
    for row in priced:
        line, content, price = row
        # A line with nothing that is wanted leaves these wants, whose step is not there yet: it never helps.
        behind = steps.get(tuple(rest(less, content)))
        if behind is not None and (best is None or price + behind[0] < best[0]):
            best = (price + behind[0], row)
    return best


def all_steps(priced, want):
    """The steps of all lesser wants in order: tuples (price, first line), or None where no lines cover them."""
    steps = {}
    for less in lesser(want):
        steps[tuple(less)] = best_step(less, priced, steps) if any(less) else (0, None)
    return steps


def cheapest(priced, want):
    """The least price of wants and a purchase of these lines that costs it, or None."""
    steps = all_steps(priced, want)
    found = steps.get(tuple(want))
    if found is None:
        return None
    purchase = []
    left = want
    while any(left):
        (place, count, adds), content, price = steps[tuple(left)][1]
        # A line that is bought twice has a list of its own each time.
        purchase.append((place, count, list(adds)))
        left = rest(left, content)
    return (found[0], sorted(purchase))


def least(shop, want):
    """The least price of wants at a shop with a purchase, or None where no purchase covers them."""
    return cheapest(priced_lines(shop), want)


def cases(shop, want):
    """The table of cases with the least prices of all lesser wants."""
    steps = all_steps(priced_lines(shop), want)
    return [(list(less), None if step is None else step[0]) for less, step in steps.items()]


def holds(less, number, priced, numbers):
    """Whether a number of a table is borne out by the numbers of what each line leaves of its wants."""
    for line, content, price in priced:
        behind = numbers[tuple(rest(less, content))]
        if behind is not None and (number is None or number > price + behind):
            return False
    return True


def shows(shop, want, table):
    """Whether a table of cases shows that no purchase of lesser wants costs less than their number."""
    priced = priced_lines(shop)
    if [less for less, number in table] != lesser(want):
        return False
    numbers = {tuple(less): number for less, number in table}
    start = numbers.get(tuple([0] * len(want)))
    if start is None or start > 0:
        return False
    return all(holds(less, number, priced, numbers) for less, number in table)
