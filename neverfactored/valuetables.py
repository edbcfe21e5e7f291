"""Tables of values: which values are taken at how many points."""

from neverfactored.polys import poly_degree, poly_part, poly_plain
from neverfactored.sums import full_equation


def value_table(tower, element):
    """Return the ascending rows (m, monic poly whose roots are the values taken at just m points)."""
    return rows_of_roots(full_equation(tower, element))


def rows_of_roots(poly):
    """Return the ascending rows (m, monic poly whose roots are those that a monic poly has just m times)."""
    rows = []
    times = 1
    # All roots that come so many times or more, and what the poly is without so many of each.
    roots = poly_plain(poly)
    rest = poly_part(poly, roots)
    while poly_degree(roots) > 0:
        more = poly_plain(rest)
        just = poly_part(roots, more)
        if poly_degree(just) > 0:
            rows.append((times, just))
        times += 1
        roots = more
        rest = poly_part(rest, more)
    return tuple(rows)
