"""Common divisors of upper polys, and the parts of a tower where an element is 0 and where it is not.

The points are parted only where the first coefficient of an upper poly is 0 at some points and not at others.
"""

from neverfactored.element import coefficients_of, from_coefficients
from neverfactored.norms import inverse_of, is_unit, norm_of, surely_unit
from neverfactored.notes import note_bottoms, note_nonzero
from neverfactored.quotients import QUOTIENT_ONE, QUOTIENT_ZERO
from neverfactored.reducing import reduced, tower_constant
from neverfactored.uppers import trim_upper, upper_minus, upper_over, upper_times


class Divided:
    """A part of a tower with the greatest common divisor over it, which is left * one + right * other."""

    def __init__(self, tower, divisor, left, right):
        self.tower = tower
        self.divisor = tuple(divisor)
        self.left = tuple(left)
        self.right = tuple(right)

    def __eq__(self, other):
        return (isinstance(other, Divided) and self.tower == other.tower and self.divisor == other.divisor
                and self.left == other.left and self.right == other.right)


def common_divisors(tower, one, other, notes=None):
    """Return parts of the tower, each with a greatest common divisor of two upper polys that is right at each point."""
    note_bottoms(notes, [*tower.equations, *one, *other])
    unit = (tower_constant(tower, QUOTIENT_ONE),)
    found = []
    for part, (divisor, left, right) in common_rows(tower, (one, unit, ()), (other, (), unit)):
        note_bottoms(notes, [*part.equations, *divisor, *left, *right])
        found.append(Divided(part, divisor, left, right))
    return tuple(found)


def divisor_parts(tower, one, other):
    """Return couples of a part and the divisor over it, for two upper polys."""
    return [(part, row[0]) for part, row in common_rows(tower, (one,), (other,))]


def common_rows(tower, one, other):
    """Return couples (part, row) whose row begins with the greatest common divisor of what one and other begin with.

    One and other are rows, tuples of upper polys; what is done to the first ones is done to those behind them, too.
    """
    found = []
    waiting = [(part, row, other) for part, row in monic_rows(tower, one)]
    while waiting:
        above, high, low = waiting.pop()
        for part, row in monic_rows(above, low):
            carried = trim_row(part, high)
            if row[0] == ():
                found.append((part, carried))
            elif carried[0] == () or len(row[0]) == 1:
                found.append((part, row))
            else:
                waiting.append((part, row, rest_row(part, carried, row)))
    return found


def monic_rows(tower, row):
    """Return couples (part, row) whose row begins with a monic upper poly or with ()."""
    found = []
    waiting = [(tower, row)]
    while waiting:
        above, told = waiting.pop()
        trimmed = trim_row(above, told)
        if trimmed[0] == ():
            found.append((above, trimmed))
        else:
            lead = trimmed[0][-1]
            zeros, others = zero_parts(above, lead)
            # Where the first coefficient is 0 it falls, and the one behind it is looked at.
            waiting.extend([(part, trimmed) for part in zeros])
            found.extend([(part, scaled_row(part, trimmed, lead)) for part in others])
    return found


def trim_row(tower, row):
    """Return the row with each upper poly trimmed."""
    return tuple([trim_upper(tower, upper) for upper in row])


def scaled_row(tower, row, lead):
    """Return the row divided by the first coefficient of its first upper poly, which is 0 at no point."""
    first = reduced(tower, lead)
    if first == tower_constant(tower, QUOTIENT_ONE):
        return trim_row(tower, row)
    factor = (inverse_of(tower, first),)
    return tuple([upper_times(tower, upper, factor) for upper in row])


def rest_row(tower, high, low):
    """Return the row that is left of high when the first upper poly of low has been divided out of its first one."""
    quotient, rest = upper_over(tower, high[0], low[0])
    return (rest,) + tuple([upper_minus(tower, upper, upper_times(tower, quotient, other))
                            for upper, other in zip(high[1:], low[1:])])


def how_nought(tower, element):
    """Return whether the element is 0 at "all" points of the tower, at "none" or at "some"."""
    rest = reduced(tower, element)
    if rest == ():
        return "all"
    return "none" if is_unit(tower.equations, rest) else "some"


def zero_parts(tower, element, notes=None):
    """Return (zeros, others): the parts at whose points the element is 0, and those at none of whose points it is."""
    note_bottoms(notes, [*tower.equations, element])
    rest = reduced(tower, element)
    if rest == ():
        return (tower,), ()
    if is_noted_unit(tower, rest, notes):
        return (), (tower,)
    zeros, others = parted(tower, rest)
    if not zeros:
        return (), (tower,)
    note_parts(notes, zeros, others, element)
    return zeros, others


def note_parts(notes, zeros, others, element):
    """Take what is not 0 where the parts have no bottom 0 and the element is 0 at no point of the others."""
    if notes is not None:
        for part in zeros + others:
            note_bottoms(notes, part.equations)
        for part in others:
            note_nonzero(notes, norm_of(part.equations, reduced(part, element)))


def is_noted_unit(tower, element, notes):
    """Return whether the element is found to be 0 at no point; if so, take what is not 0 therefore.

    Without notes a quick test will do; if it fails, parting the points tells the same.
    """
    if notes is None:
        return surely_unit(tower.equations, element)
    norm = norm_of(tower.equations, element)
    if norm == QUOTIENT_ZERO:
        return False
    note_nonzero(notes, norm)
    return True


def parted(tower, element):
    """Return (zeros, others) of a reduced element that is 0 at some points, by its divisors with the last equation."""
    letter = tower.letters[-1]
    equation = coefficients_of(tower.equations[-1])
    zeros = []
    others = []
    for part, divisor in divisor_parts(tower.over(len(tower.letters) - 1), coefficients_of(element), equation):
        rest, _ = upper_over(part, equation, divisor)
        if len(divisor) > 1:
            zeros.append(part.with_equation(letter, from_coefficients(divisor)))
        if len(rest) > 1:
            others.append(part.with_equation(letter, from_coefficients(rest)))
    return tuple(zeros), tuple(others)
