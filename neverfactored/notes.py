"""Notes of the polys that are taken as not 0."""

from neverfactored.errors import ZeroNote
from neverfactored.polys import POLY_ONE, poly_common, poly_degree, poly_part, poly_plain, poly_times


class Notes:
    """Collects polys in t, each monic and plain and kept once, in the order in which they come."""

    def __init__(self):
        self.polys = ()

    @property
    def joined(self):
        """The monic plain poly whose roots are all roots of the kept polys; 1 if none is kept."""
        product = POLY_ONE
        for poly in self.polys:
            product = poly_times(product, poly_part(poly, poly_common(poly, product)))
        return product

    def take(self, poly):
        """Keep a poly that is taken as not 0; ZeroNote for the poly 0."""
        if poly == ():
            raise ZeroNote()
        plain = poly_plain(poly)
        if poly_degree(plain) >= 1 and plain not in self.polys:
            self.polys = self.polys + (plain,)


def note_bottoms(notes, rows):
    """Take the bottoms of all quotients in the elements; notes may be None."""
    if notes is not None:
        for element in rows:
            for _, quotient in element:
                notes.take(quotient[1])


def note_nonzero(notes, quotient):
    """Take what must not be 0 where a quotient is not 0; notes may be None."""
    if notes is not None:
        notes.take(quotient[0])
