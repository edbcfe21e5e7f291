"""Whether two programs do the same at all points of a system, and where they do not."""

from neverfactored.divisors import zero_parts
from neverfactored.element import element_minus
from neverfactored.forms import bare_form
from neverfactored.machine import refuse_program, run_once, run_system
from neverfactored.norms import is_unit
from neverfactored.parting import is_within
from neverfactored.plaintowers import is_plain
from neverfactored.ratios import is_whole
from neverfactored.reducing import reduced
from neverfactored.towers import Tower


class Apart:
    """At all points of the tower two programs have these marks, and if place is a number, unlike values there."""

    def __init__(self, tower, mark, other_mark, place):
        self.tower = tower
        self.mark = mark
        self.other_mark = other_mark
        self.place = place

    def __eq__(self, other):
        return (isinstance(other, Apart) and self.tower == other.tower and self.mark == other.mark
                and self.other_mark == other.other_mark and self.place == other.place)


def refuse_programs(system, one, other):
    """Refuse a system with the free letter, and programs that read other letters than its own."""
    refuse_program(one, system)
    refuse_program(other, system)


def paired_lots(system, one, other, notes=None):
    """Return couples of a lot of one program and a lot of the other one, whose tower is a part of that of the first.

    The towers of the second lots have together just the points of the system, each once.
    """
    return [(lot, second) for lot in run_system(one, system, notes)
            for second in run_once(other, lot.tower, notes, system.free)]


def unlike_parts(lot, second, notes=None):
    """Return couples (tower, place) of the parts of the second lot's tower at whose points two paired lots differ.

    The place is None if the marks or the numbers of values differ, else that of a value that differs.
    """
    if lot.mark != second.mark or len(lot.outputs) != len(second.outputs):
        return [(second.tower, None)]
    found = []
    left = (second.tower,)
    for place, (output, value) in enumerate(zip(lot.outputs, second.outputs)):
        parted = [zero_parts(tower, element_minus(output, value), notes) for tower in left]
        found.extend([(part, place) for _, others in parted for part in others])
        left = tuple([part for zeros, _ in parted for part in zeros])
    return found


def programs_alike(system, one, other):
    """Return None if two programs have the same mark and values at all points of a system, else where they differ."""
    refuse_programs(system, one, other)
    for lot, second in paired_lots(system, one, other):
        parts = unlike_parts(lot, second)
        if parts:
            tower, place = parts[0]
            return Apart(tower, lot.mark, second.mark, place)
    return None


def apart_points(system, one, other):
    """Return the form of all points at which two programs have not the same mark and values."""
    refuse_programs(system, one, other)
    pairs = paired_lots(system, one, other)
    return bare_form(system.letters, [part for lot, second in pairs for part, _ in unlike_parts(lot, second)])


def apart_fault(system, one, other, apart):
    """Return None if an Apart, a thing of any kind, is right for two programs, else the first word that applies."""
    refuse_programs(system, one, other)
    if not isinstance(apart, Apart):
        return "apart"
    if not is_part(apart.tower, system):
        return "tower"
    lots = run_once(one, apart.tower)
    if not have_mark(lots, apart.mark):
        return "mark"
    if not have_mark(run_once(other, apart.tower), apart.other_mark):
        return "other"
    pairs = [(lot, second) for lot in lots for second in run_once(other, lot.tower)]
    if not all([is_right_place(lot, second, apart.place) for lot, second in pairs]):
        return "place"
    return None


def is_part(tower, system):
    """Return whether a thing of any kind is a plain tower without the free letter that has only points of a system."""
    if not isinstance(tower, Tower) or tower.letters != system.letters or tower.has_free:
        return False
    return is_plain(tower) and is_within(tower, system)


def have_mark(lots, mark):
    """Return whether all lots have a mark, a thing of any kind."""
    return isinstance(mark, str) and all([lot.mark == mark for lot in lots])


def is_right_place(lot, second, place):
    """Return whether a place, a thing of any kind, tells where two paired lots differ at all points of the second."""
    if lot.mark != second.mark or len(lot.outputs) != len(second.outputs):
        return place is None
    if not is_whole(place, 0, len(lot.outputs) - 1):
        return False
    gap = reduced(second.tower, element_minus(lot.outputs[place], second.outputs[place]))
    return is_unit(second.tower.equations, gap)
