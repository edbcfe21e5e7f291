"""Upper polys: polynomials in one letter more, tuples of elements over the letters of a tower."""

from neverfactored.element import element_minus, element_plus, element_scaled, element_times
from neverfactored.errors import NotMonic
from neverfactored.quotients import QUOTIENT_ONE, ratio_quotient
from neverfactored.reducing import reduced, subtract_shifted, tower_constant


def trim_upper(tower, upper):
    """Return the upper poly with each element reduced, the last one not ()."""
    rows = [reduced(tower, element) for element in upper]
    while rows and rows[-1] == ():
        rows.pop()
    return tuple(rows)


def upper_minus(tower, one, other):
    """Return the difference."""
    powers = range(max(len(one), len(other)))
    return trim_upper(tower, [element_minus(entry_at(one, power), entry_at(other, power)) for power in powers])


def entry_at(upper, power):
    """Return the coefficient of a power, also of one above the degree."""
    return upper[power] if power < len(upper) else ()


def upper_times(tower, one, other):
    """Return the product."""
    left = trim_upper(tower, one)
    right = trim_upper(tower, other)
    sums = [() for _ in range(len(left) + len(right))]
    for place, element in enumerate(left):
        for step, factor in enumerate(right):
            sums[place + step] = element_plus(sums[place + step], element_times(element, factor))
    return trim_upper(tower, sums)


def upper_over(tower, one, other):
    """Return (quotient, rest) with one = quotient * other + rest and fewer entries in the rest than in other."""
    divisor = trim_upper(tower, other)
    if not divisor or divisor[-1] != tower_constant(tower, QUOTIENT_ONE):
        raise NotMonic()
    below = divisor[:-1]
    rest = list(one)
    for power in range(len(rest) - 1, len(below) - 1, -1):
        rest[power] = reduced(tower, rest[power])
        if rest[power]:
            subtract_shifted(rest, power - len(below), rest[power], below)
    return trim_upper(tower, rest[len(below):]), trim_upper(tower, rest[:len(below)])


def upper_slope(tower, upper):
    """Return the derivative by the letter more."""
    rows = [element_scaled(element, ratio_quotient((power, 1))) for power, element in enumerate(upper)]
    return trim_upper(tower, rows[1:])
