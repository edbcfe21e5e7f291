"""Linear equations over quotients, solved in whole numbers.

Each row is cleared of its bottoms. Then t is set to a power of two that is so great that every determinant, a poly with
whole numbers, can be read back from the one whole number that it becomes. So no quotient is reckoned with on the way.
"""

from math import lcm

from neverfactored.polys import POLY_ONE, poly_common, poly_part, poly_scaled, poly_times
from neverfactored.quotients import make_quotient
from neverfactored.wholepolys import packed, unpacked, width_of

# A prime number; any large one would do.
PRIME = 2305843009213693951
# Any number will do: a determinant that is 0 there by chance decides nothing.
SAMPLE = 1234567890123457


def cleared_row(quotients):
    """Return (polys, bottom): lists of whole numbers, powers of t ascending, that over the bottom are the quotients."""
    bottom = POLY_ONE
    for quotient in quotients:
        if quotient[1] != bottom and quotient[1] != POLY_ONE:
            bottom = poly_times(bottom, poly_part(quotient[1], poly_common(quotient[1], bottom)))
    tops = [top_over(quotient, bottom) for quotient in quotients]
    shared = 1
    for top in tops:
        for ratio in top:
            shared = lcm(shared, ratio[1])
    polys = [[number * (shared // ratio_bottom) for number, ratio_bottom in top] for top in tops]
    return polys, poly_scaled(bottom, (shared, 1))


def top_over(quotient, bottom):
    """Return the top of the quotient over a bottom that its own one divides."""
    top, own = quotient
    return top if own == bottom else poly_times(top, poly_part(bottom, own))


def bits_of(rows):
    """Return how many bits hold each number of each determinant of the rows of polys, with its sign."""
    return 2 + sum([width_of([number for poly in row for number in poly]) for row in rows])


def poly_of(value, bits):
    """Return the poly whose numbers can be read back from the value."""
    return tuple([(number, 1) for number in unpacked(value, bits)])


def eliminated(rows):
    """Return (determinant, numbers) of rows of whole numbers, one number more in each row than there are rows.

    The numbers over the determinant solve the equations; (0, []) if the determinant is 0. Each division is without a
    rest, since what it leaves is a determinant again.
    """
    rows = [list(row) for row in rows]
    many = len(rows)
    last = 1
    for step in range(many):
        found = [place for place in range(step, many) if rows[place][step] != 0]
        if not found:
            return 0, []
        if found[0] != step:
            # The sign of the row that moves changes, so the determinant stays.
            lower = [-number for number in rows[step]]
            rows[step] = rows[found[0]]
            rows[found[0]] = lower
        pivot = rows[step]
        for place in range(many):
            if place != step:
                rows[place] = crossed(rows[place], pivot, step, last)
        last = pivot[step]
    return last, [row[many] for row in rows]


def crossed(row, pivot, step, last):
    """Return the row in which the number at the step is 0; what stands ahead of it is not needed any more."""
    lead = pivot[step]
    own = row[step]
    tail = [(lead * number - own * other) // last for number, other in zip(row[step:], pivot[step:])]
    return row[:step] + tail


def solved(table, right):
    """Return the factors with which the rows of the table add up to the right side, None if the rows are dependent.

    The table has as many rows of quotients as columns.
    """
    cleared_rows = [cleared_row(row) for row in table]
    sides, under = cleared_row(right)
    columns = [[polys[place] for polys, _ in cleared_rows] + [sides[place]] for place in range(len(table))]
    bits = bits_of(columns)
    whole, numbers = eliminated([[packed(poly, bits) for poly in column] for column in columns])
    if whole == 0:
        return None
    below = poly_times(poly_of(whole, bits), under)
    return [make_quotient(poly_times(bottom, poly_of(number, bits)), below)
            for (_, bottom), number in zip(cleared_rows, numbers)]


def determinant(table):
    """Return the determinant of a table of quotients, as many rows as columns; 1 without rows."""
    cleared_rows = [cleared_row(row) for row in table]
    below = POLY_ONE
    for _, bottom in cleared_rows:
        below = poly_times(below, bottom)
    bits = bits_of([polys for polys, _ in cleared_rows])
    whole, _ = eliminated([[packed(poly, bits) for poly in polys] + [0] for polys, _ in cleared_rows])
    return make_quotient(poly_of(whole, bits), below)


def surely_regular(table):
    """Return True only if the determinant of a table of quotients is not 0; False decides nothing."""
    rows = []
    for quotients in table:
        polys, _ = cleared_row(quotients)
        rows.append([value_modulo(poly) for poly in polys])
    while rows:
        places = [place for place, row in enumerate(rows) if row[0] != 0]
        if not places:
            return False
        pivot = rows.pop(places[0])
        rows = [crossed_modulo(row, pivot) for row in rows]
    return True


def value_modulo(numbers):
    """Return the value of a poly at the sample, modulo the prime."""
    value = 0
    for number in numbers[::-1]:
        value = (value * SAMPLE + number) % PRIME
    return value


def crossed_modulo(row, pivot):
    """Return the row without its first number, which the pivot row takes away, modulo the prime."""
    lead = pivot[0]
    own = row[0]
    return [(lead * number - own * other) % PRIME for number, other in zip(row[1:], pivot[1:])]
