"""Programs without the ifs that always go the same way, and without the lines that no point walks."""

from neverfactored.errors import BadProgram
from neverfactored.programs import Program
from neverfactored.sureways import idle_lines, sure_ways
from neverfactored.ways import partner_lines


def cut_sure_ways(program, system):
    """Return the program in which the lines of the way that is taken stand for each if line that is sure."""
    partners = partner_lines(program.lines)
    fallen = [number for line, yes in sure_ways(program, system) for number in lines_not_taken(line, yes, partners)]
    return Program([line for number, line in enumerate(program.lines) if number not in fallen])


def lines_not_taken(first, yes, partners):
    """Return the numbers of the lines of an if statement that are not those of the way that is taken."""
    middle, end = partners[first]
    if middle is None:
        # Without an else line the no side is empty.
        middle = end
    if yes:
        return [first, *list(range(middle, end + 1))]
    return [*list(range(first, middle + 1)), end]


def drop_idle(program, system):
    """Return the program without the statements that no point walks, but for those that must stay."""
    partners = partner_lines(program.lines)
    idle = idle_lines(program, system)
    kept = list(range(len(program.lines)))
    for first in idle[::-1]:
        last = first if partners[first] is None else partners[first][1]
        fewer = [number for number in kept if not first <= number <= last]
        if is_program([program.lines[number] for number in fewer]):
            kept = fewer
    return Program([program.lines[number] for number in kept])


def is_program(lines):
    """Return whether lines, each of which is right alone, are those of a program."""
    try:
        Program(lines)
    except BadProgram:
        return False
    return True


def shorten_program(program, system):
    """Return the program without ifs that always go the same way, then without idle statements."""
    return drop_idle(cut_sure_ways(program, system), system)
