"""Sets of numbers for the free letter that are finite or lack finitely many numbers."""

from neverfactored.errors import BadLot
from neverfactored.polys import POLY_ONE, is_poly, poly_at, poly_common, poly_part, poly_slope, poly_times
from neverfactored.ratios import ONE, ZERO

ROOTS = "roots"
ALL_BUT = "all but"


class FreeLot:
    """The roots of a poly, or all numbers but these roots."""

    def __init__(self, kind, poly):
        if not isinstance(kind, str) or kind not in (ROOTS, ALL_BUT):
            raise BadLot("kind")
        if not is_lot_poly(poly):
            raise BadLot("poly")
        self.kind = kind
        self.poly = poly

    def __eq__(self, other):
        return isinstance(other, FreeLot) and self.kind == other.kind and self.poly == other.poly

    def __contains__(self, x):
        return (poly_at(self.poly, x) == ZERO) == (self.kind == ROOTS)

    def __and__(self, other):
        kind, poly = numbers_of_both(self.kind, self.poly, other.kind, other.poly)
        return FreeLot(kind, poly)

    def __or__(self, other):
        # What is in one of them at least is all but what is in neither.
        kind, poly = numbers_of_both(other_kind(self.kind), self.poly, other_kind(other.kind), other.poly)
        return FreeLot(other_kind(kind), poly)

    def __invert__(self):
        return FreeLot(other_kind(self.kind), self.poly)


def is_lot_poly(thing):
    """Return whether a thing of any kind is a monic poly without double roots."""
    return is_poly(thing) and thing != () and thing[-1] == ONE and poly_common(thing, poly_slope(thing)) == POLY_ONE


def other_kind(kind):
    """Return the kind of all numbers that a lot of this kind has not."""
    return ALL_BUT if kind == ROOTS else ROOTS


def numbers_of_both(kind, poly, second_kind, second):
    """Return the kind and the poly of the numbers that are in two lots."""
    shared = poly_common(poly, second)
    if kind == ROOTS and second_kind == ROOTS:
        return ROOTS, shared
    if kind == ROOTS:
        return ROOTS, poly_part(poly, shared)
    if second_kind == ROOTS:
        return ROOTS, poly_part(second, shared)
    return ALL_BUT, poly_times(poly, poly_part(second, shared))
