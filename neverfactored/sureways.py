"""What a program does alike at all points of a system: ways and tests that are sure, lines that are idle."""

from neverfactored.machine import run_without_free


def rows_by_walk(answers):
    """Return the rows of the answers in lists, one for each time that an if line is walked."""
    walks = []
    for row in answers:
        # The first test is asked each time, and ahead of all others of the line.
        if row[1] == 0:
            walks.append([])
        walks[-1].append(row)
    return walks


def sure_rows(told, lots):
    """Return the ascending rows key + (yes,) of the keys that couples (key, yes) tell with one yes alone.

    A key begins with an if line. If some point breaks in it, there is no row.
    """
    broken = [lot.walked[-1] for lot in lots if lot.mark == "broken"]
    found = {}
    for key, yes in told:
        found.setdefault(key, []).append(yes)
    return tuple([key + (found[key][0],) for key in sorted(list(found))
                  if len(set(found[key])) == 1 and key[0] not in broken])


def sure_ways(program, system):
    """Return the ascending rows (line, yes) of the if lines that always go the same way."""
    lots = run_without_free(program, system)
    # The answer of a line is that of its last test that is asked.
    ends = [rows[-1] for lot in lots for rows in rows_by_walk(lot.answers)]
    return sure_rows([((line,), yes) for line, _, yes in ends], lots)


def sure_tests(program, system):
    """Return the ascending rows (line, test, yes) of the tests that are always answered alike."""
    lots = run_without_free(program, system)
    return sure_rows([((line, test), yes) for lot in lots for line, test, yes in lot.answers], lots)


def idle_lines(program, system):
    """Return the numbers of the let, if, for and stop lines that no point walks, ascending."""
    walked = [line for lot in run_without_free(program, system) for line in lot.walked]
    return tuple([number for number, line in enumerate(program.lines)
                  if line[0] not in ("else", "end") and number not in walked])


def tests_counted(program, system):
    """Return the ascending rows (number of tests that are answered at a point, number of such points)."""
    counts = {}
    for lot in run_without_free(program, system):
        asked = len(lot.answers)
        counts[asked] = counts.get(asked, 0) + lot.tower.count
    return tuple([(asked, counts[asked]) for asked in sorted(list(counts))])
