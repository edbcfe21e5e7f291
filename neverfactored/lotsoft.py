"""For which values of the free letter something holds: each answer is one free lot.

What holds over quotients of polys in t holds for all values of t but the roots of the polys that are noted. At these
it is asked anew, with t as a letter.
"""

from neverfactored.element import coefficients_of
from neverfactored.freelots import ALL_BUT, ROOTS, FreeLot
from neverfactored.freeruns import coprime_polys, refuse_bound
from neverfactored.notes import Notes
from neverfactored.polys import POLY_ONE, poly_common, poly_degree, poly_part, poly_plus, poly_times
from neverfactored.prefixes import Saying, kept_towers, refuse_prefix
from neverfactored.quotients import as_ratio
from neverfactored.ratios import ZERO
from neverfactored.reducing import tower_minus
from neverfactored.refining import gathered_over, places_over
from neverfactored.sameness import paired_lots


def poly_of_tower(tower):
    """Return the poly in t whose roots are those of the equation of t, the first one of a tower."""
    return tuple([as_ratio(coefficient[0][1]) if coefficient else ZERO
                  for coefficient in coefficients_of(tower.equations[0])])


def lot_from_roots(holds, noted, roots):
    """Return the free lot of what holds or not in general, and of the roots of the noted poly at these roots alone."""
    return FreeLot(ALL_BUT, poly_part(noted, roots)) if holds else FreeLot(ROOTS, roots)


def lot_of_t(system, saying):
    """Return the free lot of all values of t at which a saying with a word for each letter holds."""
    refuse_prefix(system, saying)
    refuse_bound(saying.program, system)
    notes = Notes()
    holds = kept_towers(system, saying, notes) != ()
    roots = POLY_ONE
    for poly in coprime_polys(notes.polys):
        for tower in kept_towers(system.special(poly), saying):
            roots = poly_times(roots, poly_of_tower(tower))
    return lot_from_roots(holds, notes.joined, roots)


def same_for_all(system, one, other):
    """Return the free lot of all values of t at which two programs do the same at all points of the system."""
    refuse_bound(one, system)
    refuse_bound(other, system)
    notes = Notes()
    same = True
    for lot, second in paired_lots(system, one, other, notes):
        alike = alike_poly(lot, second, tops_of)
        if alike != ():
            same = False
            notes.take(alike)
    apart = POLY_ONE
    for poly in coprime_polys(notes.polys):
        for lot, second in paired_lots(system.special(poly), one, other):
            roots = poly_of_tower(second.tower)
            roots = poly_part(roots, poly_common(roots, alike_poly(lot, second, polys_of_t)))
            apart = poly_times(apart, poly_part(roots, poly_common(roots, apart)))
    return lot_from_roots(same, notes.joined, poly_part(notes.joined, apart))


def alike_poly(lot, second, polys_of):
    """Return a poly in t that is 0 just where two paired lots tell the same at all points of the second one.

    The tower is plain, so a value that is 0 at all points is 0 as a reduced element: polys_of tells its coefficients.
    """
    if lot.mark != second.mark or len(lot.outputs) != len(second.outputs):
        return POLY_ONE
    shared = ()
    for output, value in zip(lot.outputs, second.outputs):
        for poly in polys_of(tower_minus(second.tower, output, value)):
            shared = poly_common(shared, poly)
    return shared


def tops_of(element):
    """Return the tops of the coefficients of an element in whose quotients t stands."""
    return [quotient[0] for _, quotient in element]


def polys_of_t(element):
    """Return the coefficients, polys in t, of an element whose first letter is t."""
    found = {}
    for exponents, quotient in element:
        term = (ZERO,) * exponents[0] + (as_ratio(quotient),)
        found[exponents[1:]] = poly_plus(found.get(exponents[1:], ()), term)
    return list(found.values())


def count_lots(system, program, mark):
    """Return the ascending couples (number, free lot of the values of t at which so many points have the mark)."""
    saying = Saying(program, mark, ())
    refuse_bound(program, system)
    notes = Notes()
    general = sum([tower.count for tower in kept_towers(system, saying, notes)])
    found = {}
    for poly in coprime_polys(notes.polys):
        for number, roots in counts_over(poly, kept_towers(system.special(poly), saying)):
            found[number] = poly_times(found.get(number, POLY_ONE), roots)
    lots = {number: FreeLot(ROOTS, found[number]) for number in found}
    lots[general] = FreeLot(ALL_BUT, poly_part(notes.joined, found.get(general, POLY_ONE)))
    return tuple([(number, lots[number]) for number in sorted(list(lots))])


def counts_over(poly, towers):
    """Return couples (number, poly of the roots of a poly in t over which the towers have so many points).

    The first letter of the towers is t, and they have no common point.
    """
    couples = [(base, towers[place].count // towers[place].degrees[0]) for place, base in places_over(towers, 1, None)]
    rows = [(sum(numbers), poly_of_tower(base)) for base, numbers in gathered_over(couples)]
    rest = poly
    for _, roots in rows:
        rest = poly_part(rest, roots)
    return rows + [(0, rest)] if poly_degree(rest) > 0 else rows
