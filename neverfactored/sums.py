"""Sums and products of the values of an element over all points of a plain tower, and the equation of its values."""

from neverfactored.divisors import zero_parts
from neverfactored.errors import HasFree
from neverfactored.polys import poly_plain
from neverfactored.ratios import ratio_negative
from neverfactored.reducing import reduced
from neverfactored.towers import t_stands_in
from neverfactored.traces import basis_sums, element_sum, equation_of, power_sums


def refuse_t(tower, element):
    """Refuse a tower or an element in which the free letter stands."""
    if t_stands_in(tower, (element,)):
        raise HasFree()


def sum_over(tower, element):
    """Return the sum of the values."""
    refuse_t(tower, element)
    return element_sum(reduced(tower, element), basis_sums(tower.equations))


def product_over(tower, element):
    """Return the product of the values."""
    below = full_equation(tower, element)[0]
    return below if tower.count % 2 == 0 else ratio_negative(below)


def full_equation(tower, element):
    """Return the monic poly with each value as a root as often as points have it."""
    refuse_t(tower, element)
    return equation_of(power_sums(tower, element))


def least_equation(tower, element):
    """Return the monic poly with each value as a root once."""
    return poly_plain(full_equation(tower, element))


def count_nought(tower, element):
    """Return the number of points at which the element is 0."""
    refuse_t(tower, element)
    return sum([part.count for part in zero_parts(tower, element)[0]])
