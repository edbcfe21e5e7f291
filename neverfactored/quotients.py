"""Quotients: tuples (top, bottom) of polys in t without a common divisor, with a monic bottom."""

from neverfactored.errors import DividedByNought, Pole
from neverfactored.polys import (
    POLY_ONE, is_poly, poly_at, poly_common, poly_monic, poly_negative, poly_part, poly_plus, poly_scaled, poly_times)
from neverfactored.ratios import ONE, ZERO, ratio_over

QUOTIENT_ZERO = ((), ((1, 1),))
QUOTIENT_ONE = (((1, 1),), ((1, 1),))


def is_quotient(thing):
    """Return whether a thing of any kind is a quotient."""
    if not isinstance(thing, tuple) or len(thing) != 2:
        return False
    top, bottom = thing
    if not is_poly(top) or not is_poly(bottom) or bottom == () or bottom[-1] != ONE:
        return False
    return poly_common(top, bottom) == POLY_ONE


def make_quotient(top, bottom):
    """Return the quotient of two polys."""
    if bottom == ():
        raise DividedByNought()
    shared = poly_common(top, bottom)
    return over_monic(poly_part(top, shared), poly_part(bottom, shared))


def over_monic(top, bottom):
    """Return the quotient of two polys without a common divisor, the bottom not yet monic."""
    if bottom[-1] == ONE:
        return (top, bottom)
    return (poly_scaled(top, ratio_over(ONE, bottom[-1])), poly_monic(bottom))


def ratio_quotient(ratio):
    """Return the quotient that is this ratio."""
    return QUOTIENT_ZERO if ratio == ZERO else ((ratio,), POLY_ONE)


def poly_quotient(poly):
    """Return the quotient that is this poly."""
    return (poly, POLY_ONE)


def has_t(quotient):
    """Return whether the quotient is no ratio."""
    return len(quotient[0]) > 1 or len(quotient[1]) > 1


def as_ratio(quotient):
    """Return the ratio that a quotient without t is."""
    return quotient[0][0] if quotient[0] else ZERO


def quotient_plus(one, other):
    """Return the sum."""
    top, bottom = one
    more, under = other
    if bottom == POLY_ONE and under == POLY_ONE:
        return (poly_plus(top, more), POLY_ONE)
    # What divides both the top and the bottom of the sum divides what the two bottoms have in common.
    shared = poly_common(bottom, under)
    rest = poly_part(under, shared)
    top = poly_plus(poly_times(top, rest), poly_times(more, poly_part(bottom, shared)))
    twice = poly_common(top, shared)
    return (poly_part(top, twice), poly_times(poly_part(bottom, twice), rest))


def quotient_minus(one, other):
    """Return the difference."""
    return quotient_plus(one, quotient_negative(other))


def quotient_negative(one):
    """Return - one."""
    return (poly_negative(one[0]), one[1])


def quotient_times(one, other):
    """Return the product."""
    top, bottom = one
    more, under = other
    if bottom == POLY_ONE and under == POLY_ONE:
        return (poly_times(top, more), POLY_ONE)
    # Each top has no divisor in common with its own bottom, so only crosswise something can be cancelled.
    left = poly_common(top, under)
    right = poly_common(more, bottom)
    return (poly_times(poly_part(top, left), poly_part(more, right)),
            poly_times(poly_part(bottom, right), poly_part(under, left)))


def quotient_over(one, other):
    """Return one / other."""
    if other[0] == ():
        raise DividedByNought()
    return quotient_times(one, over_monic(other[1], other[0]))


def quotient_at(quotient, ratio):
    """Return the value where t is the ratio; Pole if the bottom is 0 there."""
    below = poly_at(quotient[1], ratio)
    if below == ZERO:
        raise Pole(ratio)
    return ratio_over(poly_at(quotient[0], ratio), below)
