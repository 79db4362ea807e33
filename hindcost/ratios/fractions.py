"""Fractions and ratios."""

from math import gcd

from hindcost.errors import InvalidNumber
from hindcost.helpers import is_integer, is_tuple_of

INFINITE = (1, 0)


def is_ratio(value):
    """Return whether the value is a fraction or stands for infinity."""
    if not is_tuple_of(value, 2):
        return False
    p, q = value
    if not is_integer(p) or not is_integer(q) or p < 0 or q < 0:
        return False
    # Of the pairs with a zero, only (0, 1) and (1, 0) are in lowest terms.
    return gcd(p, q) == 1


def make_fraction(numerator, denominator):
    """Return the fraction with this quotient."""
    if not is_integer(numerator) or numerator < 0:
        raise InvalidNumber(numerator)
    if not is_integer(denominator) or denominator < 1:
        raise InvalidNumber(denominator)
    common = gcd(numerator, denominator)
    return numerator // common, denominator // common


def compare_ratios(first, second):
    """Return -1, 0 or 1 if the first ratio is smaller than, equal to or greater than the second one."""
    check_ratio(first)
    check_ratio(second)
    # With both infinite, both products are 0; with one infinite, its product alone is above 0.
    one = first[0] * second[1]
    other = second[0] * first[1]
    if one == other:
        return 0
    return -1 if one < other else 1


def fits_fraction(value):
    """Return whether the value is a fraction."""
    return is_ratio(value) and value != INFINITE


def check_ratio(ratio):
    """Raise InvalidNumber if the value is not a ratio."""
    if not is_ratio(ratio):
        raise InvalidNumber(ratio)


def check_fraction(ratio):
    """Raise InvalidNumber if the value is not a fraction."""
    if not fits_fraction(ratio):
        raise InvalidNumber(ratio)
