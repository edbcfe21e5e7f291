"""Plain towers: at each point ahead each equation has as many unlike roots as its degree."""

from neverfactored.divisors import divisor_parts
from neverfactored.element import coefficients_of, from_coefficients
from neverfactored.errors import NotMonic
from neverfactored.norms import is_unit, norm_of
from neverfactored.notes import note_bottoms, note_nonzero
from neverfactored.quotients import QUOTIENT_ONE
from neverfactored.reducing import tower_constant
from neverfactored.towers import Tower
from neverfactored.uppers import trim_upper, upper_over, upper_slope


def is_plain(tower):
    """Return whether a tower of any kind is plain."""
    return doubled_letter(tower) is None


def doubled_letter(tower):
    """Return the place of the first letter whose equation has a double root at some point ahead, or None."""
    for place, equation in enumerate(tower.equations):
        if not has_single_roots(tower.over(place), coefficients_of(equation)):
            return place
    return None


def has_single_roots(tower, upper):
    """Return whether a monic upper poly has no double root at any point: its slope is 0 at none of its roots."""
    return is_unit(with_upper(tower, upper), slope_of(tower, upper))


def with_upper(tower, upper):
    """Return the equations of the tower and behind them that of a monic upper poly."""
    return tower.equations + (from_coefficients(upper),)


def slope_of(tower, upper):
    """Return the derivative of an upper poly as an element."""
    return from_coefficients(upper_slope(tower, upper))


def plain_uppers(tower, upper, notes=None):
    """Return parts, each with the monic upper poly that has just the roots of the told one, each once."""
    note_bottoms(notes, [*tower.equations, *upper])
    upper = trim_upper(tower, upper)
    if len(upper) < 2 or upper[-1] != tower_constant(tower, QUOTIENT_ONE):
        raise NotMonic()
    if has_single_roots(tower, upper):
        found = [(tower, upper)]
    else:
        found = [(part, upper_over(part, upper, divisor)[0])
                 for part, divisor in divisor_parts(tower, upper, upper_slope(tower, upper))]
    for part, plain in found:
        note_bottoms(notes, [*part.equations, *plain])
        note_single_roots(notes, part, plain)
    return tuple(found)


def note_single_roots(notes, tower, upper):
    """Take what is not 0 where an upper poly without double roots has none."""
    if notes is not None:
        note_nonzero(notes, norm_of(with_upper(tower, upper), slope_of(tower, upper)))


def plain_towers(system, notes=None):
    """Return plain towers without a common point that together have just the points of the system."""
    towers = [Tower((), ())]
    for letter, equation in zip(system.letters, system.equations):
        rows = coefficients_of(equation)
        towers = [part.with_equation(letter, from_coefficients(upper))
                  for tower in towers for part, upper in plain_uppers(tower, rows, notes)]
    return tuple(towers)
