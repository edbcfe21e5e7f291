"""Points of one tower that another one has too, and judging of parts."""

from neverfactored.divisors import zero_parts
from neverfactored.element import coefficients_of, from_coefficients, widened
from neverfactored.errors import OtherLetters
from neverfactored.norms import is_unit
from neverfactored.notes import note_bottoms
from neverfactored.plaintowers import is_plain
from neverfactored.reducing import reduced


def carry_tower(tower, part):
    """Return the tower of the points of the tower that stand over the points of the part, a tower of fewer letters."""
    many = len(part.letters)
    if tower.letters[:many] != part.letters:
        raise OtherLetters()
    for letter, equation in zip(tower.letters[many:], tower.equations[many:]):
        rows = [reduced(part, coefficient) for coefficient in coefficients_of(equation)]
        part = part.with_equation(letter, from_coefficients(rows))
    return part


def meet_towers(one, other, notes=None):
    """Return (common, rest): parts of one with the points that other has too, and parts with those it has not."""
    if one.letters != other.letters:
        raise OtherLetters()
    note_bottoms(notes, one.equations + other.equations)
    common = (one,)
    rest = ()
    for equation in other.equations:
        kept = ()
        for part in common:
            zeros, others = zero_parts(part, widened(equation, len(one.letters)), notes)
            kept = kept + zeros
            rest = rest + others
        common = kept
    return (common, rest) if common else ((), (one,))


def is_within(part, tower):
    """Return whether a plain tower has only points of another tower in the same letters."""
    return all([is_zero_at(part, equation) for equation in tower.equations])


def is_zero_at(part, element):
    """Return whether an element, perhaps over fewer letters, is 0 at all points of a plain tower."""
    return reduced(part, widened(element, len(part.letters))) == ()


def have_common_point(one, other):
    """Return whether two plain towers in the same letters have a common point."""
    return one == other or meet_towers(one, other)[0] != ()


def parts_fault(tower, parts):
    """Return None if the towers are parts of the tower, else the first word that applies to any of them."""
    if any([part.letters != tower.letters for part in parts]):
        return "letters"
    if not all([is_plain(part) for part in parts]):
        return "plain"
    if not all([is_within(part, tower) for part in parts]):
        return "beyond"
    if any([have_common_point(parts[place], other)
            for place in range(len(parts)) for other in parts[place + 1:]]):
        return "twice"
    # Parts with only points of the tower and none twice lack a point exactly if they are too few.
    if sum([part.count for part in parts]) != tower.count:
        return "lacking"
    return None


def zero_fault(tower, element, zeros, others):
    """Return None if zeros and others are right parts for the element, else the first word that applies."""
    what = parts_fault(tower, [*zeros, *others])
    if what is not None:
        return what
    if not all([is_zero_at(part, element) for part in zeros]):
        return "zero"
    if not all([is_unit(part.equations, reduced(part, element)) for part in others]):
        return "other"
    return None
