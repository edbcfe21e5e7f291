"""The values of a mark, over all points of a system that have it."""

from neverfactored.divisors import zero_parts
from neverfactored.errors import NoMark, NoneMarked, NoPlace
from neverfactored.forms import bare_form
from neverfactored.machine import lots_by_mark, refuse_program, run_system, run_without_free
from neverfactored.polys import POLY_ONE, poly_times
from neverfactored.quotients import ratio_quotient
from neverfactored.ratios import ZERO, is_whole, ratio_over, ratio_plus
from neverfactored.reducing import tower_constant, tower_plus, tower_times
from neverfactored.sums import full_equation, sum_over
from neverfactored.valuetables import rows_of_roots


def marks_counted(program, system):
    """Return the ascending rows (mark, number of the points that have it)."""
    return tuple([(mark, count_points(lots)) for mark, lots in lots_by_mark(run_without_free(program, system))])


def count_points(lots):
    """Return the number of points of all lots."""
    return sum([lot.tower.count for lot in lots])


def told_values(program, system, mark, place):
    """Return couples (tower, value of this place) of all lots that have the mark; refuse what is told wrongly."""
    refuse_program(program, system)
    numbers = [many for told, many in program.marks if told == mark]
    if not numbers:
        raise NoMark(mark)
    if not is_whole(place, 0, numbers[0] - 1):
        raise NoPlace(place)
    return [(lot.tower, lot.outputs[place]) for lot in run_system(program, system) if lot.mark == mark]


def total_of(values):
    """Return the sum of the values of all points."""
    total = ZERO
    for tower, value in values:
        total = ratio_plus(total, sum_over(tower, value))
    return total


def equation_of_values(values):
    """Return the monic poly with the value of each point as a root; 1 without points."""
    product = POLY_ONE
    for tower, value in values:
        product = poly_times(product, full_equation(tower, value))
    return product


def sum_of_mark(program, system, mark, place):
    """Return the sum of the values over the points that have the mark."""
    return total_of(told_values(program, system, mark, place))


def mean_of_mark(program, system, mark, place):
    """Return the sum of the values over the number of the points that have the mark; NoneMarked if there is none."""
    values = told_values(program, system, mark, place)
    if not values:
        raise NoneMarked()
    return ratio_over(total_of(values), (sum([tower.count for tower, _ in values]), 1))


def mark_values(program, system, mark, place):
    """Return the rows (m, monic poly whose roots are the values taken at just m points that have the mark)."""
    return rows_of_roots(mark_equation(program, system, mark, place))


def mark_equation(program, system, mark, place):
    """Return the monic poly with the value of each point that has the mark as a root."""
    return equation_of_values(told_values(program, system, mark, place))


def taken_points(program, system, mark, place, m):
    """Return the form of the points that have the mark and whose value is taken at just m of these."""
    values = told_values(program, system, mark, place)
    polys = [poly for times, poly in rows_of_roots(equation_of_values(values)) if times == m]
    return bare_form(system.letters, [part for poly in polys for tower, value in values
                                      for part in zero_parts(tower, poly_of_value(tower, poly, value))[0]])


def poly_of_value(tower, poly, value):
    """Return the element that a poly is with an element put in for its letter."""
    found = ()
    for ratio in poly[::-1]:
        found = tower_plus(tower, tower_times(tower, found, value), tower_constant(tower, ratio_quotient(ratio)))
    return found
