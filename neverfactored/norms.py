"""Elements that are 0 at no point: how they are told, and their inverses, all by the table of the element.

In all of this the element is reduced by the equations; the equations need not be plain.
"""

from neverfactored.element import element_degree, widened
from neverfactored.matrices import determinant, solved, surely_regular
from neverfactored.quotients import QUOTIENT_ONE, QUOTIENT_ZERO
from neverfactored.reducing import basis_of, table_of


def lowered(equations, element):
    """Return the equations and the element without the last letters, those that do not stand in the element."""
    many = len(equations)
    while many > 0 and element_degree(element, many - 1) <= 0:
        many -= 1
    return equations[:many], tuple([(exponents[:many], quotient) for exponents, quotient in element])


def norm_of(equations, element):
    """Return a quotient that is 0 where the element is 0 at some point, and at no other t."""
    needed, low = lowered(equations, element)
    return determinant(table_of(needed, low))


def surely_unit(equations, element):
    """Return True only if the element is 0 at no point; False decides nothing."""
    needed, low = lowered(equations, element)
    # A constant needs no test: a number that is 0 modulo the prime would not pass it.
    return low != () if not needed else surely_regular(table_of(needed, low))


def is_unit(equations, element):
    """Return whether the element is 0 at no point."""
    return surely_unit(equations, element) or norm_of(equations, element) != QUOTIENT_ZERO


def inverse_of(tower, element):
    """Return the reduced inverse of an element, None if the element is 0 at some point."""
    needed, low = lowered(tower.equations, element)
    table = table_of(needed, low)
    found = solved(table, [QUOTIENT_ONE] + [QUOTIENT_ZERO for _ in table[1:]])
    if found is None:
        return None
    basis = basis_of(tower.over(len(needed)))
    couples = [(exponents, quotient) for exponents, quotient in zip(basis, found) if quotient != QUOTIENT_ZERO]
    return widened(tuple(couples), len(tower.letters))
