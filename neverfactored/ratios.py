"""Ratios: tuples (top, bottom) of whole numbers in lowest terms, with a bottom of 1 or more."""

from math import gcd

from neverfactored.errors import BadRatio, DividedByNought
from neverfactored.powers import power_by

ZERO = (0, 1)
ONE = (1, 1)


def is_whole(thing, low=None, high=None):
    """Return whether thing is a whole number from low to high; None is no bound."""
    if not isinstance(thing, int) or isinstance(thing, bool):
        return False
    return (low is None or thing >= low) and (high is None or thing <= high)


def is_ratio(thing):
    """Return whether a thing of any kind is a ratio."""
    if not isinstance(thing, tuple) or len(thing) != 2:
        return False
    top, bottom = thing
    return is_whole(top) and is_whole(bottom, 1) and gcd(top, bottom) == 1


def make_ratio(top, bottom=1):
    """Return the ratio top / bottom."""
    if not is_whole(top):
        raise BadRatio("top")
    if not is_whole(bottom) or bottom == 0:
        raise BadRatio("bottom")
    if bottom < 0:
        return lowest_terms(-top, -bottom)
    return lowest_terms(top, bottom)


def lowest_terms(top, bottom):
    """Return the ratio top / bottom of two whole numbers, the bottom 1 or more."""
    shared = gcd(top, bottom)
    if shared == 1:
        return (top, bottom)
    return (top // shared, bottom // shared)


def ratio_plus(one, other):
    """Return the sum."""
    return lowest_terms(one[0] * other[1] + other[0] * one[1], one[1] * other[1])


def ratio_minus(one, other):
    """Return the difference."""
    return lowest_terms(one[0] * other[1] - other[0] * one[1], one[1] * other[1])


def ratio_times(one, other):
    """Return the product."""
    return lowest_terms(one[0] * other[0], one[1] * other[1])


def ratio_over(one, other):
    """Return one / other."""
    if other[0] == 0:
        raise DividedByNought()
    return make_ratio(one[0] * other[1], one[1] * other[0])


def ratio_negative(one):
    """Return - one."""
    return (-one[0], one[1])


def ratio_power(one, power):
    """Return the power for a whole number from 0 on; power 0 of anything is 1."""
    return power_by(ratio_times, ONE, one, power)


def ratio_compare(one, other):
    """Return -1, 0 or 1 if one is below, equal to or above other."""
    left = one[0] * other[1]
    right = other[0] * one[1]
    if left == right:
        return 0
    return -1 if left < right else 1


def ratio_text(one):
    """Return the text of a ratio, without a bottom of 1."""
    top, bottom = one
    return str(top) if bottom == 1 else f"{top}/{bottom}"
