"""Fractions, as tuples (top, bottom) with a bottom from 1 on."""


def common_divisor(number, other):
    """The greatest whole number that divides both."""
    while other:
        number, other = other, number % other
    return number


def lowest(top, bottom):
    """This fraction in lowest terms."""
    divisor = common_divisor(top, bottom)
    return (top // divisor, bottom // divisor)


def over_one_bottom(fractions):
    """The tops of fractions, in lowest terms or not, over one bottom; and this bottom."""
    bottom = 1
    for top, own in fractions:
        bottom = bottom * own // common_divisor(bottom, own)
    return ([top * (bottom // own) for top, own in fractions], bottom)
