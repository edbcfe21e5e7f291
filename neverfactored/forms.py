"""Forms: each set of points, with or without values, has exactly one."""

from neverfactored.element import element_at
from neverfactored.errors import HasFree, NoPlace, NoPoint, OtherLetters
from neverfactored.joining import Piece, form_pieces, refuse_pieces
from neverfactored.parting import have_common_point, meet_towers
from neverfactored.plaintowers import is_plain, plain_towers
from neverfactored.ratios import is_whole
from neverfactored.refining import apart_towers, less_towers
from neverfactored.towers import has_point


class Form:
    """The pieces of a set of points in these letters; count is the number of the points."""

    def __init__(self, letters, pieces):
        self.letters = tuple(letters)
        self.pieces = tuple(pieces)
        self.count = sum([piece.tower.count for piece in pieces])

    def __eq__(self, other):
        return isinstance(other, Form) and self.letters == other.letters and self.pieces == other.pieces

    def __len__(self):
        return len(self.pieces)

    def __iter__(self):
        return iter(self.pieces)


def bare_pieces(towers):
    """Return the pieces of towers, without values."""
    return [Piece(tower, ()) for tower in towers]


def bare_form(letters, towers):
    """Return the form, without values, of all points of towers without a common point."""
    return Form(letters, form_pieces(bare_pieces(towers)))


def towers_of(form):
    """Return the towers of the pieces of a form."""
    return [piece.tower for piece in form.pieces]


def form_of(letters, towers):
    """Return the form of all points of towers that may have common points."""
    refuse_pieces(letters, bare_pieces(towers))
    return bare_form(letters, apart_towers(towers))


def form_of_lots(letters, lots):
    """Return the form, with values, of all points of lots or pieces without a common point."""
    refuse_pieces(letters, lots)
    return Form(letters, form_pieces(lots))


def system_form(system):
    """Return the form of all points of a system."""
    if system.has_free:
        raise HasFree()
    return bare_form(system.letters, plain_towers(system))


def form_over(form, k):
    """Return the form of what is left of the points if only the first k letters are kept."""
    if not is_whole(k, 0, len(form.letters)):
        raise NoPlace(k)
    return bare_form(form.letters[:k], apart_towers([tower.over(k) for tower in towers_of(form)]))


def refuse_unlike_letters(one, other):
    """Refuse two forms of unlike letters."""
    if one.letters != other.letters:
        raise OtherLetters()


def form_meet(one, other):
    """Return the form of the points of both forms."""
    refuse_unlike_letters(one, other)
    return bare_form(one.letters, [part for tower in towers_of(one) for second in towers_of(other)
                                   for part in meet_towers(tower, second)[0]])


def form_join(one, other):
    """Return the form of the points of one form or both."""
    refuse_unlike_letters(one, other)
    more = less_towers(towers_of(other), towers_of(one))
    return bare_form(one.letters, [*towers_of(one), *more])


def form_less(one, other):
    """Return the form of the points of one form that the other has not."""
    refuse_unlike_letters(one, other)
    return bare_form(one.letters, less_towers(towers_of(one), towers_of(other)))


def same_points(one, other):
    """Return whether two forms have the same letters and the same points."""
    return one.letters == other.letters and towers_of(one) == towers_of(other)


def form_has(form, numbers):
    """Return whether a point of the form has these ratios as its numbers."""
    return any([has_point(tower, numbers) for tower in towers_of(form)])


def values_at(form, numbers):
    """Return the tuple of the values, ratios, at a point of the form; NoPoint if it has not this point."""
    for piece in form.pieces:
        if has_point(piece.tower, numbers):
            return tuple([element_at(output, numbers) for output in piece.outputs])
    raise NoPoint()


def form_fault(letters, pieces):
    """Return None if the towers of the pieces are those of the form of their points, else the first word due."""
    towers = [piece.tower for piece in pieces]
    if any([tower.letters != tuple(letters) for tower in towers]):
        return "letters"
    if any([tower.has_free for tower in towers]):
        return "free"
    if not all([is_plain(tower) for tower in towers]):
        return "plain"
    if not all([order_of(one) < order_of(other) for one, other in zip(towers, towers[1:])]):
        return "order"
    if any([have_common_beginning(tower, other) for place, tower in enumerate(towers) for other in towers[:place]]):
        return "common"
    return None


def order_of(tower):
    """Return the degrees by which pieces are ordered, from the last letter to the second."""
    return tower.degrees[:0:-1]


def have_common_beginning(one, other):
    """Return whether two towers have a common point over the letters ahead of the last one with unlike degrees."""
    last = max([place for place, degree in enumerate(one.degrees) if degree != other.degrees[place]])
    return have_common_point(one.over(last), other.over(last))
