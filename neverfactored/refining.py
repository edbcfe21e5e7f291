"""Sets of points told by several towers: taken apart, taken away, refined and counted over their beginnings."""

from neverfactored.errors import OtherLetters
from neverfactored.notes import note_bottoms
from neverfactored.parting import carry_tower, is_within, meet_towers


def refuse_other_letters(towers):
    """Refuse towers that have not all the same letters in the same order."""
    if any([tower.letters != towers[0].letters for tower in towers]):
        raise OtherLetters()


def note_towers(notes, towers):
    """Take the bottoms in all equations of the towers; notes may be None."""
    for tower in towers:
        note_bottoms(notes, tower.equations)


def apart_towers(towers, notes=None):
    """Return towers without a common point that together have just the points of the told ones."""
    refuse_other_letters(towers)
    note_towers(notes, towers)
    found = ()
    for tower in towers:
        found = found + points_less((tower,), found, notes)
    return found


def less_towers(towers, others, notes=None):
    """Return towers without a common point with just the points that some of towers has and none of others."""
    refuse_other_letters([*towers, *others])
    note_towers(notes, [*towers, *others])
    return points_less(towers, others, notes)


def points_less(towers, others, notes):
    """Return parts of the towers with just the points that none of the others has."""
    left = tuple(towers)
    for other in others:
        left = tuple([part for tower in left for part in meet_towers(tower, other, notes)[1]])
    return left


def refine_towers(towers, notes=None):
    """Return parts of the towers: over the first letters, however many, two are equal or without a common point."""
    refuse_other_letters(towers)
    note_towers(notes, towers)
    found = tuple(towers)
    if not found:
        return ()
    count = 0
    # Parting towers over some letters may part them over fewer ones, too, so all is done until nothing is parted.
    while count < len(found):
        count = len(found)
        for many in range(1, len(found[0].letters) + 1):
            found = refined_over(found, many, notes)
    return found


def refined_over(towers, many, notes):
    """Return parts of the towers of which any two are equal or without a common point over so many letters."""
    return tuple([carry_tower(towers[place], base) for place, base in places_over(towers, many, notes)])


def places_over(towers, many, notes):
    """Return couples of a tower's number and a tower over so many letters, one for each part that stands over it.

    Any two of the latter are equal or without a common point.
    """
    ahead = [tower.over(many) for tower in towers]
    bases = common_parts(ahead, notes)
    return [(place, base) for place, tower in enumerate(ahead) for base in bases if is_within(base, tower)]


def gathered_over(couples):
    """Return couples of a tower and the list of the things that couples (tower, thing) tell for it."""
    rows = []
    for base, thing in couples:
        found = [things for tower, things in rows if tower == base]
        if found:
            found[0].append(thing)
        else:
            rows.append((base, [thing]))
    return rows


def common_parts(towers, notes):
    """Return towers without a common point of which each of the told towers has all points or none."""
    found = ()
    for tower in towers:
        if tower not in found:
            lacking = points_less((tower,), found, notes)
            met = [meet_towers(part, tower, notes) for part in found]
            found = lacking + tuple([piece for common, rest in met for piece in common + rest])
    return found


def counted_beginnings(towers, notes=None):
    """Return couples (tower over all letters but the last, number of told points over each of its points)."""
    refuse_other_letters(towers)
    note_towers(notes, towers)
    if not towers:
        return ()
    many = len(towers[0].letters) - 1
    couples = [(base, towers[place].degrees[many]) for place, base in places_over(towers, many, notes)]
    return tuple([(base, sum(degrees)) for base, degrees in gathered_over(couples)])
