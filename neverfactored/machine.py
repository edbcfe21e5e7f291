"""A program run once for all points of a plain tower; the points are parted only where the program parts them."""

from neverfactored.divisors import zero_parts
from neverfactored.element import element_minus, element_negative, element_plus
from neverfactored.errors import DividedByNought, HasFree, Parted
from neverfactored.inverses import inverse_over
from neverfactored.notes import note_bottoms
from neverfactored.plaintowers import plain_towers
from neverfactored.quotients import ratio_quotient
from neverfactored.ratios import make_ratio
from neverfactored.reducing import reduced, tower_constant, tower_letter, tower_power, tower_times
from neverfactored.walking import Course, Walk, refuse_letters, walk_on

FREE_T = (((0, 1), (1, 1)), ((1, 1),))


class Lot:
    """At each point of the tower the program has this mark, these answers and lines walked, and as values these."""

    def __init__(self, tower, mark, outputs, answers, walked):
        self.tower = tower
        self.mark = mark
        self.outputs = tuple(outputs)
        self.answers = tuple(answers)
        self.walked = tuple(walked)

    def __eq__(self, other):
        return (isinstance(other, Lot) and self.tower == other.tower and self.mark == other.mark
                and self.outputs == other.outputs and self.answers == other.answers and self.walked == other.walked)


class TowerGround:
    """Reckons with elements reduced by a tower; where one must be 0 at all points or at none, raises Parted."""

    def __init__(self, tower, notes):
        self.tower = tower
        self.notes = notes

    def number_value(self, number):
        """Return a number of a program."""
        return tower_constant(self.tower, ratio_quotient(make_ratio(number)))

    def letter_value(self, letter):
        """Return the element of a letter; t is the free letter if it is none of the tower."""
        if letter in self.tower.letters:
            return tower_letter(self.tower, self.tower.place_of(letter))
        return tower_constant(self.tower, FREE_T)

    def negative(self, one):
        """Return - one."""
        return element_negative(one)

    def plus(self, one, other):
        """Return the sum."""
        return element_plus(one, other)

    def minus(self, one, other):
        """Return the difference."""
        return element_minus(one, other)

    def times(self, one, other):
        """Return the product."""
        return tower_times(self.tower, one, other)

    def divide(self, one, other):
        """Return one / other."""
        if self.is_nought(other):
            raise DividedByNought()
        return tower_times(self.tower, one, inverse_over(self.tower, other))

    def power(self, one, power):
        """Return the power."""
        return tower_power(self.tower, one, power)

    def is_nought(self, one):
        """Return True if a value is 0 at all points, False if at none; raise Parted if at some."""
        zeros, others = zero_parts(self.tower, one, self.notes)
        if zeros and others:
            raise Parted(one, zeros, others)
        return others == ()


def parted_run(program, tower, notes, free):
    """Return (events, lots) of a run over a plain tower; free tells whether t may be read as the free letter.

    An event is a tuple (line, element, tower, zeros, others): there the run was parted.
    """
    refuse_letters(program, tower.letters + ("t",) if free else tower.letters)
    note_bottoms(notes, tower.equations)
    course = Course(program.lines)
    events = []
    lots = []
    waiting = [(tower, Walk())]
    while waiting:
        part, walk = waiting.pop()
        try:
            mark, outputs = walk_on(walk, course, TowerGround(part, notes))
        except Parted as parting:
            events.append((walk.line, parting.element, part, parting.zeros, parting.others))
            waiting.extend([(piece, carried_walk(walk, piece)) for piece in parting.zeros + parting.others])
        else:
            lots.append(Lot(part, mark, outputs, walk.answers, walk.walked))
    return tuple(events), tuple(lots)


def carried_walk(walk, part):
    """Return the walk over a part of the tower."""
    return walk.carried(lambda value: reduced(part, value))


def run_once(program, tower, notes=None, free=False):
    """Return lots whose towers have together all points of a plain tower, each right at all of its points."""
    return parted_run(program, tower, notes, free)[1]


def run_system(program, system, notes=None):
    """Return the lots of a program at all points of a system."""
    lots = ()
    for tower in plain_towers(system, notes):
        lots = lots + run_once(program, tower, notes, system.free)
    return lots


def refuse_program(program, system):
    """Refuse a system with the free letter, and a program that reads other letters than its own."""
    if system.has_free:
        raise HasFree()
    refuse_letters(program, system.letters)


def run_without_free(program, system):
    """Return the lots of a program at all points of a system, which must not have the free letter."""
    refuse_program(program, system)
    return run_system(program, system)


def lots_by_mark(lots):
    """Return the ascending list of couples (mark, list of the lots with this mark)."""
    found = {}
    for lot in lots:
        found.setdefault(lot.mark, []).append(lot)
    return [(mark, found[mark]) for mark in sorted(list(found))]
