"""Where a run was parted."""

from neverfactored.errors import HasFree
from neverfactored.machine import parted_run
from neverfactored.walking import refuse_letters


class Parting:
    """At a line the points of the tower are parted: the element is 0 at those of zeros and not at those of others."""

    def __init__(self, line, element, tower, zeros, others):
        self.line = line
        self.element = element
        self.tower = tower
        self.zeros = tuple(zeros)
        self.others = tuple(others)

    def __eq__(self, other):
        return (isinstance(other, Parting) and self.line == other.line and self.element == other.element
                and self.tower == other.tower and self.zeros == other.zeros and self.others == other.others)


def partings_of(program, tower):
    """Return (partings, lots) of a run over a plain tower; each parted tower comes from an earlier parting."""
    refuse_letters(program, tower.letters)
    if tower.has_free:
        raise HasFree()
    events, lots = parted_run(program, tower, None, False)
    return tuple([Parting(line, element, part, zeros, others) for line, element, part, zeros, others in events]), lots
