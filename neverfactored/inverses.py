"""Inverses and quotients of elements over a tower, and judging of these and of common divisors."""

from neverfactored.divisors import zero_parts
from neverfactored.norms import inverse_of
from neverfactored.notes import note_bottoms
from neverfactored.parting import is_zero_at, parts_fault
from neverfactored.quotients import QUOTIENT_ONE
from neverfactored.reducing import reduced, tower_constant, tower_times
from neverfactored.uppers import trim_upper, upper_minus, upper_over, upper_times


def inverses(tower, element, notes=None):
    """Return (zeros, found): found are couples of a part and the inverse over it."""
    zeros, others = zero_parts(tower, element, notes)
    return zeros, tuple([(part, inverse_over(part, element)) for part in others])


def inverse_over(tower, element):
    """Return the inverse of an element that is 0 at no point."""
    return inverse_of(tower, reduced(tower, element))


def divisions(tower, top, bottom, notes=None):
    """Return (zeros, found): found are couples of a part and the quotient top / bottom over it."""
    note_bottoms(notes, [top])
    zeros, found = inverses(tower, bottom, notes)
    return zeros, tuple([(part, tower_times(part, top, inverse)) for part, inverse in found])


def inverses_fault(tower, element, zeros, found):
    """Return None if zeros and found are right inverses of the element, else the first word that applies."""
    what = parts_fault(tower, list(zeros) + [part for part, _ in found])
    if what is not None:
        return what
    if not all([is_zero_at(part, element) for part in zeros]):
        return "zero"
    if not all([tower_times(part, inverse, element) == tower_constant(part, QUOTIENT_ONE) for part, inverse in found]):
        return "inverse"
    return None


def divided_fault(tower, one, other, found):
    """Return None if found are right common divisors of two upper polys, else the first word that applies."""
    what = parts_fault(tower, [result.tower for result in found])
    if what is not None:
        return what
    if not all([is_monic_or_nought(result) for result in found]):
        return "monic"
    if not all([divides(result, one) and divides(result, other) for result in found]):
        return "divides"
    if not all([is_sum(result, one, other) for result in found]):
        return "sum"
    return None


def is_monic_or_nought(result):
    """Return whether the divisor of a result is monic or ()."""
    divisor = trim_upper(result.tower, result.divisor)
    return divisor == () or divisor[-1] == tower_constant(result.tower, QUOTIENT_ONE)


def divides(result, upper):
    """Return whether the divisor of a result divides an upper poly over its part; () divides only 0."""
    if trim_upper(result.tower, result.divisor) == ():
        return trim_upper(result.tower, upper) == ()
    return upper_over(result.tower, upper, result.divisor)[1] == ()


def is_sum(result, one, other):
    """Return whether the divisor of a result is left * one + right * other over its part."""
    left = upper_times(result.tower, result.left, one)
    right = upper_times(result.tower, result.right, other)
    return upper_minus(result.tower, result.divisor, left) == right
