"""A program run over a system with the free letter, for all values of t.

Once it is run over quotients of polys in t. What is noted there has finitely many roots, and for these it is run over
the system in which t is a letter with an equation.
"""

from neverfactored.errors import NoFree
from neverfactored.machine import run_system
from neverfactored.notes import Notes
from neverfactored.outcomes import lots_at, outcome_at
from neverfactored.polys import poly_at, poly_common, poly_degree, poly_part
from neverfactored.ratios import ZERO
from neverfactored.walking import refuse_letters


class FreeRun:
    """The general lots, right where t is no root of the poly, and the special ones, in which t is the first letter."""

    def __init__(self, poly, general, special):
        self.poly = tuple(poly)
        self.general = tuple(general)
        self.special = tuple(special)

    def __eq__(self, other):
        return (isinstance(other, FreeRun) and self.poly == other.poly and self.general == other.general
                and self.special == other.special)


def refuse_bound(program, system):
    """Refuse a system without the free letter, and a program that reads other letters than its own and t."""
    if not system.free:
        raise NoFree()
    refuse_letters(program, system.letters + ("t",))


def coprime_polys(polys):
    """Return monic polys without common roots that have together just the roots of monic polys without double roots."""
    found = []
    for poly in polys:
        pieces = []
        rest = poly
        for told in found:
            shared = poly_common(told, rest)
            rest = poly_part(rest, shared)
            pieces.extend([shared, poly_part(told, shared)])
        found = [piece for piece in [*pieces, rest] if poly_degree(piece) > 0]
    return found


def free_run(program, system):
    """Return the lots of a program over a system with the free letter, for all values of t."""
    refuse_bound(program, system)
    notes = Notes()
    general = run_system(program, system, notes)
    special = [lot for poly in coprime_polys(notes.polys) for lot in run_system(program, system.special(poly))]
    return FreeRun(notes.joined, general, special)


def free_outcome(run, number, numbers):
    """Return the outcome where t and the letters of the system are these ratios."""
    if poly_at(run.poly, number) == ZERO:
        return outcome_at(run.special, (number, *numbers))
    return outcome_at(lots_at(run.general, number), numbers)
