"""Elements reduced by a tower, reckoning with them, and their coordinates."""

from neverfactored.element import (
    coefficients_of, constant_element, element_minus, element_plus, element_times, from_coefficients, letter_element,
    widened)
from neverfactored.equations import equation_degree
from neverfactored.notes import Notes
from neverfactored.polys import poly_over, poly_plain
from neverfactored.powers import power_by
from neverfactored.quotients import QUOTIENT_ONE, QUOTIENT_ZERO
from neverfactored.towers import are_below


class Reduction:
    """A reduced element, and for each equation the factor that leads back to the element it was made of."""

    def __init__(self, rest, factors):
        self.rest = rest
        self.factors = tuple(factors)

    def __eq__(self, other):
        return isinstance(other, Reduction) and self.rest == other.rest and self.factors == other.factors


def divided(equations, element):
    """Return (rest, factors): the reduced element, and one factor for each equation.

    The element is gone through from the greatest power of the last letter down. Each coefficient is reduced by the
    equations ahead before it is used, so nothing grows more than it must.
    """
    if are_below(element, [equation_degree(equation) for equation in equations]):
        return element, tuple([() for _ in equations])
    ahead = equations[:-1]
    own = coefficients_of(equations[-1])[:-1]
    rest = list(coefficients_of(element))
    told = [() for _ in rest]
    for power in range(len(rest) - 1, -1, -1):
        rest[power], told[power] = divided(ahead, rest[power])
        if power >= len(own) and rest[power]:
            subtract_shifted(rest, power - len(own), rest[power], own)
    factors = [from_coefficients([row[place] for row in told]) for place in range(len(ahead))]
    return from_coefficients(rest[:len(own)]), tuple(factors + [from_coefficients(rest[len(own):])])


def subtract_shifted(rows, shift, factor, others):
    """Subtract the factor times the others from the rows, the first other from the row number shift."""
    for place, other in enumerate(others):
        if other:
            rows[shift + place] = element_minus(rows[shift + place], element_times(factor, other))


def reduced(tower, element):
    """Return the one element reduced by the tower that differs from this by products with the equations."""
    return divided(tower.equations, element)[0]


def told_reduction(tower, element):
    """Return the reduced element together with the factors of the equations."""
    rest, factors = divided(tower.equations, element)
    return Reduction(rest, factors)


def reduction_fault(tower, element, rest, factors):
    """Return None if rest and factors are a reduction of the element, else "rest", "many" or "sum"."""
    if not are_below(rest, tower.degrees):
        return "rest"
    if len(factors) != len(tower.equations):
        return "many"
    total = rest
    for factor, equation in zip(factors, tower.equations):
        total = element_plus(total, element_times(factor, widened(equation, len(tower.letters))))
    if total != element or not have_bottoms_of(factors, tower.equations + (element,)):
        return "sum"
    return None


def have_bottoms_of(rows, others):
    """Return whether the bottoms in the rows are 0 only where a bottom in the others is."""
    notes = Notes()
    for other in others:
        for _, quotient in other:
            notes.take(quotient[1])
    roots = notes.joined
    return all([poly_over(roots, poly_plain(quotient[1]))[1] == () for row in rows for _, quotient in row])


def tower_plus(tower, one, other):
    """Return the reduced sum."""
    return reduced(tower, element_plus(one, other))


def tower_minus(tower, one, other):
    """Return the reduced difference."""
    return reduced(tower, element_minus(one, other))


def tower_times(tower, one, other):
    """Return the reduced product."""
    return reduced(tower, element_times(reduced(tower, one), reduced(tower, other)))


def tower_power(tower, one, power):
    """Return the reduced power for a whole number from 0 on; power 0 gives 1, also of ()."""
    unit = tower_constant(tower, QUOTIENT_ONE)
    return power_by(lambda left, right: tower_times(tower, left, right), unit, reduced(tower, one), power)


def tower_letter(tower, place):
    """Return the reduced element of the letter with this number."""
    return reduced(tower, letter_element(place, len(tower.letters)))


def tower_constant(tower, quotient):
    """Return the element of a quotient."""
    return constant_element(quotient, len(tower.letters))


def is_same(tower, one, other):
    """Return whether both have the same reduced element."""
    return tower_minus(tower, one, other) == ()


def as_quotient(tower, element):
    """Return the quotient that the reduced element is, None if a letter stands in it."""
    rest = reduced(tower, element)
    if rest == ():
        return QUOTIENT_ZERO
    exponents, quotient = rest[0]
    return quotient if len(rest) == 1 and exponents == (0,) * len(exponents) else None


def basis_of(tower):
    """Return the exponents of all reduced products of letters, in the order of the terms of elements."""
    basis = [()]
    for degree in tower.degrees:
        basis = [exponents + (power,) for power in range(degree) for exponents in basis]
    return tuple(basis)


def coordinates_of(tower, element):
    """Return the quotients of the reduced element at the exponents of the basis."""
    quotients = {exponents: quotient for exponents, quotient in reduced(tower, element)}
    return tuple([quotients.get(exponents, QUOTIENT_ZERO) for exponents in basis_of(tower)])


def combined_element(tower, coordinates):
    """Return the element with these coordinates."""
    return tuple([(exponents, quotient) for exponents, quotient in zip(basis_of(tower), coordinates)
                  if quotient != QUOTIENT_ZERO])


def multiply_table(tower, element):
    """Return the rows of coordinates of the element times each product of letters of the basis."""
    return tuple([tuple(row) for row in table_of(tower.equations, reduced(tower, element))])


def table_of(equations, element):
    """Return the rows of the table of an element that is reduced by the equations, lists of quotients.

    Times a power of the last letter the element is a row of coefficients; each of them has a table of its own.
    """
    if not equations:
        return [[element[0][1] if element else QUOTIENT_ZERO]]
    ahead = equations[:-1]
    own = coefficients_of(equations[-1])[:-1]
    rows = [list(coefficients_of(element))]
    rows[0].extend([() for _ in range(len(own) - len(rows[0]))])
    for _ in own[1:]:
        rows.append(times_letter(ahead, own, rows[-1]))
    table = []
    for row in rows:
        blocks = [table_of(ahead, entry) for entry in row]
        table.extend([[quotient for block in blocks for quotient in block[place]] for place in range(len(blocks[0]))])
    return table


def times_letter(ahead, own, row):
    """Return the coefficients times their letter, whose equation has its own coefficients below its first one."""
    shifted = [()] + row[:-1]
    if row[-1]:
        subtract_shifted(shifted, 0, row[-1], own)
        return [divided(ahead, entry)[0] for entry in shifted]
    return shifted
