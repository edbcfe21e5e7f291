"""What a program does at all points of a system, as one form for each mark."""

from neverfactored.forms import form_of_lots
from neverfactored.machine import lots_by_mark, run_without_free


def program_form(program, system):
    """Return the ascending tuple of couples (mark, form of the points that get it, with their values)."""
    lots = run_without_free(program, system)
    return tuple([(mark, form_of_lots(system.letters, found)) for mark, found in lots_by_mark(lots)])
