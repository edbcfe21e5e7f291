"""Pieces, plain towers with values at their points, and the pieces of the one form of a set of points.

The pieces are joined from the last letter to the first. Over each beginning all points are taken together, so the
equation of the last letter and the values become rows of coefficients. The beginnings over which just as many points
stand are a set of points of one letter less, and the rows of coefficients are the values at them.
"""

from neverfactored.element import coefficients_of, from_coefficients
from neverfactored.errors import HasFree, NotOne, OtherLetters
from neverfactored.inverses import inverse_over
from neverfactored.parting import carry_tower
from neverfactored.quotients import QUOTIENT_ONE
from neverfactored.reducing import reduced, tower_constant, tower_times
from neverfactored.refining import gathered_over, places_over
from neverfactored.towers import t_stands_in
from neverfactored.uppers import entry_at, upper_minus, upper_times


class Piece:
    """A plain tower, and at each of its points the values of these elements."""

    def __init__(self, tower, outputs):
        self.tower = tower
        self.outputs = tuple(outputs)

    def __eq__(self, other):
        return isinstance(other, Piece) and self.tower == other.tower and self.outputs == other.outputs


def refuse_pieces(letters, pieces):
    """Refuse the first piece, or lot, that has not these letters or in which the free letter stands."""
    for piece in pieces:
        if piece.tower.letters != tuple(letters):
            raise OtherLetters()
        if t_stands_in(piece.tower, piece.outputs):
            raise HasFree()


def join_pieces(pieces):
    """Return the one piece of the form of all points of pieces without a common point."""
    if not pieces:
        raise NotOne()
    refuse_pieces(pieces[0].tower.letters, pieces)
    found = form_pieces(pieces)
    if len(found) != 1:
        raise NotOne()
    return found[0]


def form_pieces(pieces):
    """Return the pieces of the form of all points of pieces, or lots, without a common point, in their order."""
    if len(pieces) < 2:
        return tuple([carried_piece(piece, piece.tower) for piece in pieces])
    letter = pieces[0].tower.letters[-1]
    groups = {}
    for base, stacked in stacked_pieces(pieces):
        degree = len(stacked[0]) - 1
        groups.setdefault(degree, []).append(Piece(base, coefficients_in_row(stacked, degree)))
    return tuple([raised_piece(piece, letter, degree)
                  for degree in sorted(list(groups)) for piece in form_pieces(groups[degree])])


def carried_piece(piece, tower):
    """Return the piece over the told tower, which has only points of its own one."""
    return Piece(tower, [reduced(tower, output) for output in piece.outputs])


def stacked_pieces(pieces):
    """Return couples (tower of all letters but the last, upper polys over it), the towers without a common point.

    The first upper poly has all points over the tower as its roots, the others have the values there.
    """
    couples = []
    for place, base in places_over([piece.tower for piece in pieces], len(pieces[0].tower.letters) - 1, None):
        piece = carried_piece(pieces[place], carry_tower(pieces[place].tower, base))
        couples.append((base, piece))
    return [(base, stacked_over(base, found)) for base, found in gathered_over(couples)]


def stacked_over(base, pieces):
    """Return the upper polys of all pieces over a tower of all letters but the last."""
    stacked = None
    for piece in pieces:
        uppers = [coefficients_of(element) for element in (piece.tower.equations[-1],) + piece.outputs]
        stacked = uppers if stacked is None else stacked_two(base, piece.tower, stacked, uppers)
    return stacked


def stacked_two(base, tower, one, other):
    """Return the upper polys of two rows of them over a base; the tower is that of the points of the other row."""
    inverse = inverse_over(tower, from_coefficients(one[0]))
    values = []
    for left, right in zip(one[1:], other[1:]):
        # What is taken away is 0 at the roots of the one row, and at those of the other one it leaves the right value.
        gap = from_coefficients(upper_minus(base, left, right))
        factor = coefficients_of(tower_times(tower, gap, inverse))
        values.append(upper_minus(base, left, upper_times(base, one[0], factor)))
    return [upper_times(base, one[0], other[0]), *values]


def coefficients_in_row(uppers, degree):
    """Return the coefficients of the powers below the degree of all upper polys, one upper poly behind the other."""
    return [entry_at(upper, power) for upper in uppers for power in range(degree)]


def raised_piece(piece, letter, degree):
    """Return the piece of one letter more whose upper polys, of this degree, have the told values as coefficients."""
    rows = [piece.outputs[start:start + degree] for start in range(0, len(piece.outputs), degree)]
    equation = from_coefficients(rows[0] + (tower_constant(piece.tower, QUOTIENT_ONE),))
    return Piece(piece.tower.with_equation(letter, equation), [from_coefficients(row) for row in rows[1:]])
