"""Exact fractions: tuples (top, bottom) of integers in lowest terms."""

from math import gcd

from offscale.errors import NoFraction


def is_whole(value):
    """Tell whether value is an integer."""
    # Python counts bools as integers; the document does not.
    return isinstance(value, int) and not isinstance(value, bool)


def is_fraction(value):
    """Tell whether value, which may be anything, is a fraction."""
    if not isinstance(value, tuple) or len(value) != 2:
        return False
    top, bottom = value
    if not is_whole(top) or not is_whole(bottom):
        return False
    return bottom >= 1 and gcd(top, bottom) == 1


def fraction(top, bottom=1):
    """Return the fraction top / bottom of two integers."""
    if not is_whole(top) or not is_whole(bottom) or bottom == 0:
        raise NoFraction()
    return _lowest(top, bottom)


def _lowest(top, bottom):
    """Return top / bottom in lowest terms; bottom is not 0."""
    divisor = gcd(top, bottom)
    # A divisor below 0 moves the sign from the bottom to the top.
    if bottom < 0:
        divisor = -divisor
    return (top // divisor, bottom // divisor)


def plus(one, other):
    """Return the sum of two fractions."""
    return _lowest(one[0] * other[1] + other[0] * one[1], one[1] * other[1])


def minus(one, other):
    """Return one less other."""
    return _lowest(one[0] * other[1] - other[0] * one[1], one[1] * other[1])


def times(one, other):
    """Return the product of two fractions."""
    return _lowest(one[0] * other[0], one[1] * other[1])


def over(one, other):
    """Return one divided by other, which must not be zero."""
    if other[0] == 0:
        raise NoFraction()
    return _lowest(one[0] * other[1], one[1] * other[0])


def compare(one, other):
    """Return -1, 0 or 1, as one is less than, equal to or greater than other."""
    left = one[0] * other[1]
    right = other[0] * one[1]
    if left < right:
        return -1
    if left > right:
        return 1
    return 0


def floor_of(one):
    """Return the greatest integer that is not above the fraction."""
    return one[0] // one[1]


def part_of(one):
    """Return the fraction less its floor."""
    top, bottom = one
    # What divides bottom and the remainder divides top: these are lowest terms.
    return (top % bottom, bottom)


def total(*some):
    """Return the sum of any number of fractions, zero of none."""
    result = (0, 1)
    for one in some:
        result = plus(result, one)
    return result
