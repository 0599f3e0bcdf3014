"""Fractions: tuples (top, bottom) of whole numbers in lowest terms, the bottom from 1 on."""

from halfcrumb.errors import NoFraction, NoText
from halfcrumb.figures import is_number, is_whole_number


def greatest_divisor(one, other):
    """Tell the greatest whole number that divides both, neither of which is below 0."""
    while other != 0:
        one, other = other, one % other
    return one


def fraction_of(top, bottom=1):
    """Tell the fraction that stands for top divided by bottom."""
    if bottom == 0:
        raise NoFraction("the bottom of a fraction is not 0")
    divisor = greatest_divisor(abs(top), abs(bottom))
    if bottom < 0:
        # The sign is kept above, so that each fraction is told in one way only.
        divisor = -divisor
    return (top // divisor, bottom // divisor)


def plus(one, other):
    """Tell the sum."""
    return fraction_of(one[0] * other[1] + other[0] * one[1], one[1] * other[1])


def minus(one, other):
    """Tell one less other."""
    return fraction_of(one[0] * other[1] - other[0] * one[1], one[1] * other[1])


def times(one, other):
    """Tell the product."""
    return fraction_of(one[0] * other[0], one[1] * other[1])


def over(one, other):
    """Tell one divided by other."""
    return fraction_of(one[0] * other[1], one[1] * other[0])


def sum_of(fractions):
    """Tell the sum of a list of fractions."""
    total = (0, 1)
    for fraction in fractions:
        total = plus(total, fraction)
    return total


def is_less(one, other):
    """Tell whether one is less than other."""
    return one[0] * other[1] < other[0] * one[1]


def is_fraction(thing):
    """Tell whether a thing, of any kind, is a fraction."""
    if not isinstance(thing, tuple) or len(thing) != 2:
        return False
    top, bottom = thing
    if not is_whole_number(top) or not is_whole_number(bottom):
        return False
    return bottom >= 1 and greatest_divisor(abs(top), bottom) == 1


def are_fractions(things):
    """Tell whether all things of a list are fractions."""
    return all([is_fraction(thing) for thing in things])


def fraction_text(fraction):
    """Write a fraction."""
    top, bottom = fraction
    return str(top) if bottom == 1 else f"{top}/{bottom}"


def read_fraction(text):
    """Read a fraction that is written just as fraction_text writes it."""
    above, stroke, beneath = text.removeprefix("-").partition("/")
    if stroke == "":
        beneath = "1"
    if not is_number(above) or not is_number(beneath) or beneath == "0":
        raise NoText("this is not written as a fraction")
    top = -int(above) if text[0] == "-" else int(above)
    fraction = fraction_of(top, int(beneath))
    # Writing it again shows what the parts alone don't: -0, a bottom 1, no lowest terms.
    if fraction_text(fraction) != text:
        raise NoText("this is not how the fraction is written")
    return fraction
