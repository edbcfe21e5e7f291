"""Sums of the values of elements over all points of a tower without the free letter, and what they tell of the values.

The sums of the products of letters of the basis are enough for all others. Those of the powers of the last letter
come from its equation by the identities of Newton, and what these leave is a tower of one letter less. The same
identities lead from the sums of the powers of an element back to the equation of its values.
"""

from neverfactored.element import (
    coefficients_of, constant_element, element_negative, element_plus, element_scaled, element_times)
from neverfactored.quotients import QUOTIENT_ONE, as_ratio, ratio_quotient
from neverfactored.ratios import ONE, ZERO, lowest_terms, ratio_negative, ratio_over, ratio_plus, ratio_times
from neverfactored.reducing import basis_of, divided, multiply_table
from neverfactored.wholepolys import cleared


def basis_sums(equations):
    """Return a dict of the sums over all points of the products of letters of the basis, told by their exponents."""
    sums = {(): ONE}
    for place, equation in enumerate(equations):
        ahead = equations[:place]
        powers = letter_sums(ahead, coefficients_of(equation)[:-1])
        sums = {exponents + (power,): element_sum(times_product(ahead, total, exponents), sums)
                for power, total in enumerate(powers) for exponents in sums}
    return sums


def letter_sums(ahead, own):
    """Return the sums of the powers of a letter below its degree over the roots of its equation, reduced elements.

    Own are the coefficients of its equation but for the first one.
    """
    degree = len(own)
    sums = [constant_element(ratio_quotient((degree, 1)), len(ahead))]
    for power in range(1, degree):
        total = element_scaled(own[degree - power], ratio_quotient((power, 1)))
        for step in range(1, power):
            total = element_plus(total, element_times(own[degree - step], sums[power - step]))
        sums.append(element_negative(divided(ahead, total)[0]))
    return sums


def times_product(equations, element, exponents):
    """Return the reduced product of an element and a product of letters."""
    return divided(equations, element_times(element, ((exponents, QUOTIENT_ONE),)))[0]


def element_sum(element, sums):
    """Return the sum of the values of a reduced element, of the sums of the products of letters."""
    total = ZERO
    for exponents, quotient in element:
        total = ratio_plus(total, ratio_times(as_ratio(quotient), sums[exponents]))
    return total


def power_sums(tower, element):
    """Return the sums of the powers of an element from the first on, as many as points.

    A row of whole numbers over one bottom is taken times the table of the element, power by power.
    """
    sums = basis_sums(tower.equations)
    weights, under = cleared([sums[exponents] for exponents in basis_of(tower)])
    entries, bottom = cleared([as_ratio(entry) for row in multiply_table(tower, element) for entry in row])
    columns = [entries[place::tower.count] for place in range(tower.count)]
    row = [1] + [0 for _ in columns[1:]]
    found = []
    for _ in columns:
        row = [whole_product(row, column) for column in columns]
        under = under * bottom
        found.append(lowest_terms(whole_product(row, weights), under))
    return found


def whole_product(one, other):
    """Return the sum of the products of whole numbers, pair by pair."""
    return sum([number * factor for number, factor in zip(one, other)])


def equation_of(sums):
    """Return the monic poly whose roots, each as often as it stands, have these sums of their powers."""
    falling = [ONE]
    for power in range(1, len(sums) + 1):
        total = ZERO
        for step in range(power):
            total = ratio_plus(total, ratio_times(falling[power - 1 - step], sums[step]))
        falling.append(ratio_negative(ratio_over(total, (power, 1))))
    return tuple(falling[::-1])
