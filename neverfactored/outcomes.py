"""What lots tell: at one point, by answers, at one value of t; and judging of lots."""

from neverfactored.element import element_at, element_has_t, element_minus, element_set_t
from neverfactored.errors import HasFree, NoPoint
from neverfactored.machine import Lot, run_once
from neverfactored.parting import is_zero_at, parts_fault
from neverfactored.plainruns import Outcome
from neverfactored.towers import has_point, t_stands_in, tower_set_t
from neverfactored.walking import refuse_letters


def outcome_at(lots, numbers):
    """Return the outcome at a point whose numbers are ratios."""
    if any([t_stands_in(lot.tower, lot.outputs) for lot in lots]):
        raise HasFree()
    for lot in lots:
        if has_point(lot.tower, numbers):
            values = [element_at(output, numbers) for output in lot.outputs]
            return Outcome(lot.mark, values, lot.answers, lot.walked)
    raise NoPoint()


def lots_by_answers(lots):
    """Return the ascending tuple of couples (answers, tuple of the lots with these answers)."""
    found = {}
    for lot in lots:
        found.setdefault(lot.answers, []).append(lot)
    return tuple([(answers, tuple(found[answers])) for answers in sorted(list(found))])


def lots_at(lots, number):
    """Return the lots with t set to a ratio; Pole if a bottom is 0 there."""
    return tuple([Lot(tower_set_t(lot.tower, number), lot.mark,
                      [element_set_t(output, number) for output in lot.outputs], lot.answers, lot.walked)
                  for lot in lots])


def lots_fault(program, tower, lots):
    """Return None if the lots are right for a run over a plain tower, else the first word due."""
    refuse_letters(program, tower.letters)
    if tower.has_free:
        raise HasFree()
    what = parts_fault(tower, [lot.tower for lot in lots])
    if what is not None:
        return what
    for lot in lots:
        what = lot_fault(lot, run_once(program, lot.tower))
        if what is not None:
            return what
    return None


def lot_fault(lot, right_lots):
    """Return the first word due for a lot, of which right lots have just the points."""
    if any([right.mark != lot.mark for right in right_lots]):
        return "mark"
    if any([not has_values_of(lot, right) for right in right_lots]):
        return "values"
    if any([right.answers != lot.answers for right in right_lots]):
        return "answers"
    if any([right.walked != lot.walked for right in right_lots]):
        return "walked"
    return None


def has_values_of(lot, right):
    """Return whether a lot tells the values of a right one at all points of the latter."""
    if len(lot.outputs) != len(right.outputs) or any([element_has_t(output) for output in lot.outputs]):
        return False
    return all([is_zero_at(right.tower, element_minus(told, output))
                for told, output in zip(lot.outputs, right.outputs)])
