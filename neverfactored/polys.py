"""Polys: tuples of ratios, the coefficients of the powers 0, 1, 2 and so on; the last one is not 0."""

from neverfactored.errors import DividedByNought
from neverfactored.powers import power_by
from neverfactored.ratios import (
    ONE, ZERO, is_ratio, lowest_terms, ratio_minus, ratio_negative, ratio_over, ratio_plus, ratio_times)
from neverfactored.wholepolys import cleared, whole_common, whole_over, whole_times, without_factor

POLY_ONE = ((1, 1),)


def is_poly(thing):
    """Return whether a thing of any kind is a poly."""
    if not isinstance(thing, tuple) or not all([is_ratio(ratio) for ratio in thing]):
        return False
    return len(thing) == 0 or thing[-1] != ZERO


def make_poly(ratios):
    """Return the poly with these coefficients, without the noughts at its end."""
    end = len(ratios)
    while end > 0 and ratios[end - 1] == ZERO:
        end -= 1
    return tuple(ratios[:end])


def poly_degree(poly):
    """Return the degree, -1 for the poly ()."""
    return len(poly) - 1


def coefficient_at(poly, power):
    """Return the coefficient of a power, also of one above the degree."""
    return poly[power] if power < len(poly) else ZERO


def poly_plus(one, other):
    """Return the sum."""
    powers = range(max(len(one), len(other)))
    return make_poly([ratio_plus(coefficient_at(one, power), coefficient_at(other, power)) for power in powers])


def poly_minus(one, other):
    """Return the difference."""
    powers = range(max(len(one), len(other)))
    return make_poly([ratio_minus(coefficient_at(one, power), coefficient_at(other, power)) for power in powers])


def poly_negative(poly):
    """Return - poly."""
    return tuple([ratio_negative(ratio) for ratio in poly])


def poly_times(one, other):
    """Return the product."""
    if not one or not other:
        return ()
    if len(one) == 1 and len(other) == 1:
        return (ratio_times(one[0], other[0]),)
    tops, bottom = cleared(one)
    others, under = cleared(other)
    return tuple([lowest_terms(number, bottom * under) for number in whole_times(tops, others)])


def poly_scaled(poly, ratio):
    """Return the poly times a ratio."""
    if ratio == ZERO:
        return ()
    return tuple([ratio_times(coefficient, ratio) for coefficient in poly])


def poly_power(poly, power):
    """Return the power for a whole number from 0 on; power 0 gives 1, also of ()."""
    return power_by(poly_times, POLY_ONE, poly, power)


def poly_over(one, other):
    """Return (quotient, rest) with one = quotient * other + rest and a rest of a degree below that of other."""
    if not other:
        raise DividedByNought()
    rest = list(one)
    steps = len(one) - len(other) + 1
    quotient = [ZERO for _ in range(steps)]
    for place in range(steps - 1, -1, -1):
        factor = ratio_over(rest[place + len(other) - 1], other[-1])
        quotient[place] = factor
        if factor != ZERO:
            for step, ratio in enumerate(other):
                rest[place + step] = ratio_minus(rest[place + step], ratio_times(factor, ratio))
    return make_poly(quotient), make_poly(rest)


def poly_monic(poly):
    """Return the poly divided by its last ratio; () stays."""
    if not poly or poly[-1] == ONE:
        return poly
    return poly_scaled(poly, ratio_over(ONE, poly[-1]))


def poly_common(one, other):
    """Return the monic greatest common divisor, () if both are ()."""
    if not one or not other:
        return poly_monic(one or other)
    if len(one) == 1 or len(other) == 1:
        return POLY_ONE
    found = whole_common(without_factor(cleared(one)[0]), without_factor(cleared(other)[0]))
    return POLY_ONE if len(found) == 1 else poly_monic(tuple([(number, 1) for number in found]))


def poly_part(poly, divisor):
    """Return the poly divided by a monic poly that divides it."""
    if divisor == POLY_ONE:
        return poly
    numbers, bottom = cleared(poly)
    # Cleared, a monic poly has no common factor, so the quotient needs no bottoms of its own.
    others, under = cleared(divisor)
    return tuple([lowest_terms(number * under, bottom) for number in whole_over(numbers, others)])


def poly_slope(poly):
    """Return the derivative."""
    return tuple([ratio_times((power, 1), poly[power]) for power in range(1, len(poly))])


def poly_plain(poly):
    """Return the monic poly that has the same roots, each once; DividedByNought for ()."""
    if poly == ():
        raise DividedByNought()
    return poly_part(poly_monic(poly), poly_common(poly, poly_slope(poly)))


def poly_at(poly, ratio):
    """Return the value where the letter is the ratio."""
    found = ZERO
    for coefficient in poly[::-1]:
        found = ratio_plus(ratio_times(found, ratio), coefficient)
    return found
