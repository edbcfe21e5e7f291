"""The answers and marks that a program gives at the points of a system, and how many points give them."""

from neverfactored.errors import HasFree
from neverfactored.machine import run_system
from neverfactored.walking import refuse_letters


def answer_rows(program, system):
    """Return the ascending tuple of rows (answers, mark, number of points)."""
    refuse_letters(program, system.letters)
    if system.free:
        raise HasFree()
    counts = {}
    for lot in run_system(program, system):
        row = (lot.answers, lot.mark)
        counts[row] = counts.get(row, 0) + lot.tower.count
    return tuple([(answers, mark, counts[(answers, mark)]) for answers, mark in sorted(list(counts))])
