"""What the tests of the project share."""

import copy
import itertools
import random
import re
import unittest

MOST_PRICE = 999999999999

# The forms of the texts of point 15.
THINGS_FORM = r"[1-9] [a-z]{1,8}(?:, [1-9] [a-z]{1,8})*"
PRICE_FORM = r"(?:0|[1-9][0-9]{0,11})"
PLACE_FORM = r"(?:0|[1-9][0-9]?)"
TIER_FORM = f"{PLACE_FORM} for {PRICE_FORM}"
PACK_FORM = re.compile(f"({THINGS_FORM}) for ({PRICE_FORM})")
MANY_FORM = re.compile(f"many ({THINGS_FORM}): ({TIER_FORM}(?:, {TIER_FORM}){{0,3}})")
ADD_FORM = re.compile(f"with ({PLACE_FORM}): ({THINGS_FORM}) for ({PRICE_FORM})")


def lists_in(value):
    """All lists in a value, itself included, as often as they stand in it."""
    if not isinstance(value, (list, tuple)):
        return []
    found = [value] if isinstance(value, list) else []
    for item in value:
        found.extend(lists_in(item))
    return found


def spoil(value):
    """Change every list in a value."""
    for told in lists_in(value):
        told.insert(0, 77)


def plain_lines(shop):
    """All lines with contents and prices in order, reckoned apart from the program."""
    told = []
    for place, offer in enumerate(shop):
        if offer[0] == "many":
            for count in range(1, 13):
                each = {begin: price for begin, price in offer[2] if begin <= count}
                content = [count * number for number in offer[1]]
                told.append(((place, count, []), content, count * each[max(each)]))
        if offer[0] == "pack":
            own = [at for at, other in enumerate(shop) if other[0] == "add" and other[3] == place]
            chosen = [list(some) for size in range(len(own) + 1) for some in itertools.combinations(own, size)]
            for adds in sorted(chosen):
                parts = [offer] + [shop[at] for at in adds]
                content = [sum(numbers) for numbers in zip(*[part[1] for part in parts])]
                told.append(((place, 1, adds), content, sum(part[2] for part in parts)))
    return told


def plain_covers(content, want):
    return all(have >= number for have, number in zip(content, want))


def plain_left(want, content):
    return [max(number - have, 0) for have, number in zip(content, want)]


def plain_content(names, text):
    """The contents that a text tells, or None."""
    if text == "nothing":
        return [0] * len(names)
    if not re.fullmatch(THINGS_FORM, text):
        return None
    told = [part.split(" ") for part in text.split(", ")]
    if any(name not in names for number, name in told):
        return None
    places = [names.index(name) for number, name in told]
    if places != sorted(set(places)):
        return None
    numbers = {name: int(number) for number, name in told}
    content = [numbers.get(name, 0) for name in names]
    many = 1
    for number in content:
        many *= number + 1
    return content if many <= 400 else None


def plain_offer(names, text):
    """The offer that a row tells, or None."""
    for kind, form in (("pack", PACK_FORM), ("many", MANY_FORM), ("add", ADD_FORM)):
        found = form.fullmatch(text)
        if found:
            parts = list(found.groups())
            place = parts.pop(0) if kind == "add" else None
            content = plain_content(names, parts[0])
            if content is None:
                return None
            if kind == "many":
                tiers = [tuple(int(number) for number in tier.split(" for ")) for tier in parts[1].split(", ")]
                return (kind, content, tiers)
            return (kind, content, int(parts[1])) + (() if place is None else (int(place),))
    return None


def standing_alone(shop):
    """The places of the packs to which no "add" belongs."""
    named = [offer[3] for offer in shop if offer[0] == "add"]
    return [place for place, offer in enumerate(shop) if offer[0] == "pack" and place not in named]


def without(shop, place):
    """The shop without the offer at this place, as point 12 tells."""
    left = []
    for at, offer in enumerate(shop):
        if at != place:
            moved = offer[0] == "add" and offer[3] > place
            left.append(offer[:3] + (offer[3] - 1,) if moved else offer)
    return left


def some_shop(chance, things, offers, most):
    """A shop with so many offers, with numbers and prices up to a most one, as chance has it."""
    shop = []
    for at in range(offers):
        content = [chance.choice((0, chance.randint(0, most[0]))) for thing in range(things)]
        content[chance.randrange(things)] = chance.randint(1, most[0])
        packs = [place for place, offer in enumerate(shop) if offer[0] == "pack"]
        kind = chance.choice(("pack", "pack", "many", "add" if packs else "pack"))
        if kind == "pack":
            shop.append(("pack", content, chance.randint(0, most[1])))
        elif kind == "add":
            shop.append(("add", content, chance.randint(0, most[1]), chance.choice(packs)))
        else:
            begins = [1] + sorted(chance.sample(range(2, 13), chance.randint(0, 3)))
            shop.append(("many", content, [(begin, chance.randint(0, most[1])) for begin in begins]))
    return shop


def some_shops(seed, number, offers=8, most=(4, 12)):
    """Pairs of a shop and how many things there are; the same ones for the same seed."""
    chance = random.Random(seed)
    for at in range(number):
        things = chance.randint(1, 4)
        yield some_shop(chance, things, chance.randint(0, offers), most), things


class AskCase(unittest.TestCase):
    """A test case that asks functions as point 2 of the document lets them be asked."""

    def ask(self, function, *handed):
        """The answer, once it is sure that point 2 holds for it."""
        # The texts tell True from 1 and a list from a tuple, as == does not.
        before = repr(handed)
        fresh = copy.deepcopy(handed)
        # What is handed in is spoiled below: the test keeps its own.
        handed = copy.deepcopy(handed)
        told = function(*handed)
        self.assertEqual(repr(handed), before, "what was handed in was changed")
        kept = copy.deepcopy(told)
        self.check_own(told, handed)
        spoil(told)
        self.assertEqual(repr(handed), before, "the answer holds what was handed in")
        again = function(*handed)
        self.assertEqual(repr(again), repr(kept), "the answer hangs on an earlier one")
        spoil(handed)
        self.assertEqual(repr(again), repr(kept), "the answer hangs on what was handed in")
        self.assertEqual(repr(function(*fresh)), repr(kept), "the same is answered otherwise")
        return kept

    def check_own(self, told, handed):
        """Each told list stands at one place alone, and is none that was handed in."""
        marks = [id(one) for one in lists_in(told)]
        self.assertEqual(len(marks), len(set(marks)), "a told list stands at two places")
        others = [id(one) for one in lists_in(handed)]
        self.assertFalse(set(marks) & set(others), "a told list was handed in")

    def told(self, expected, function, *handed):
        """Ask, and hold the answer against what is expected, kinds of values included."""
        self.assertEqual(repr(self.ask(function, *handed)), repr(expected))

    def refused(self, error, function, *handed):
        """The refusal, once it is sure that it is of this very class and changed nothing."""
        before = repr(handed)
        with self.assertRaises(error) as caught:
            function(*handed)
        self.assertIs(caught.exception.__class__, error)
        self.assertEqual(repr(handed), before)
        return caught.exception
