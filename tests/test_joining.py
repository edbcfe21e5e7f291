"""[6.4], [6.5], [6.6] Piece, [6.7] join_pieces: pieces joined into the one piece that their points have."""

import unittest

from neverfactored.divisors import zero_parts
from neverfactored.element import element_plus, widened
from neverfactored.errors import HasFree, NotOne, OtherLetters
from neverfactored.joining import Piece, join_pieces
from neverfactored.machine import Lot
from neverfactored.reducing import reduced, tower_times
from tests.support import Case, dice_of, e, some_element, split_tower, tower, with_root

EMPTY = tower()
TWO = tower("x: x**2 - 2")
SHAPES = ((1,), (3,), (4,), (2, 2), (3, 2), (1, 3), (2, 3), (2, 2, 2), (3, 1, 2), (2, 2, 1))


def parted(dice, one, roots, times):
    """Return parts of a split tower, parted so many times at some of its points."""
    parts = [one]
    for _ in range(times):
        element = with_root(dice, one.letters, roots)
        parts = [part for whole in parts for kind in zero_parts(whole, element) for part in kind]
    return parts


class PieceTest(Case):

    def test_keeps_what_it_is_given(self):
        piece = Piece(TWO, [e("x", "x"), ()])
        self.assertEqual(vars(piece), {"tower": TWO, "outputs": (e("x", "x"), ())})
        self.assertEqual(vars(Piece(TWO, ())), {"tower": TWO, "outputs": ()})
        self.assertEqual(vars(Piece("no tower", ["no", "elements"])),
                         {"tower": "no tower", "outputs": ("no", "elements")})

    def test_equal(self):
        piece = Piece(TWO, (e("x", "x"),))
        self.assertTrue(piece == Piece(tower("x: x**2 - 2"), [e("x", "x")]))
        for other in (Piece(TWO, ()), Piece(TWO, (e("x", "x"), e("x", "x"))), Piece(TWO, (e("1", "x"),)),
                      Piece(tower("x: x**2 - 3"), (e("x", "x"),))):
            self.assertFalse(piece == other)

    def test_a_list_that_changes_later(self):
        outputs = [e("x", "x")]
        piece = Piece(TWO, outputs)
        outputs.append(())
        self.assertEqual(piece.outputs, (e("x", "x"),))


class JoinTest(Case):

    def test_parts_of_a_tower(self):
        dice = dice_of(433)
        joined = 0
        for turn in range(80):
            one, roots = split_tower(dice, SHAPES[turn % len(SHAPES)])
            values = [some_element(dice, len(one.letters), with_t=False) for _ in range(turn % 4)]
            parts = parted(dice, one, roots, 2)
            dice.shuffle(parts)
            pieces = [Piece(part, [element_plus(reduced(part, value), part.equations[-1]) for value in values])
                      for part in parts]
            found = join_pieces(pieces)
            self.assertTrue(found == Piece(one, [reduced(one, value) for value in values]))
            joined += len(parts) > 2
        self.assertGreater(joined, 20)

    def test_the_second_example_of_6_5(self):
        told = [Piece(tower("x: x**2 - 2", "y: y - x"), [e("1")]), Piece(tower("x: x**2 - 2", "y: y + x"), [e("3")])]
        right = Piece(tower("x: x**2 - 2", "y: y**2 - 2"), [e("2 - 1/2*x*y")])
        self.assertTrue(join_pieces(told) == right)
        self.assertTrue(join_pieces(tuple(told[::-1])) == right)

    def test_points_that_are_no_ratios(self):
        found = join_pieces([Piece(TWO, [e("x", "x"), e("1", "x")]), Piece(tower("x: x**2 - 3"), [(), e("x", "x")])])
        self.assertEqual(found.tower, tower("x: x**4 - 5*x**2 + 6"))
        self.same(found.outputs, (e("3*x - x**3", "x"), e("x**3 - x**2 - 2*x + 3", "x")))
        whole = tower("x: x**3 - 2", "y: y**2 + x*y + x**2 - 1", "z: z**2 - y")
        twice = [Piece(whole, [e("x*z", "xyz")]), Piece(tower("x: x**3 - 3", "y: y**2 - x", "z: z**2 - y - 1"), [()])]
        found = join_pieces(twice)
        self.assertEqual((found.tower.degrees, found.tower.count), ((6, 2, 2), 24))
        for piece in twice:
            for equation in found.tower.equations:
                self.same(reduced(piece.tower, widened(equation, 3)), ())
            self.same(reduced(piece.tower, found.outputs[0]), piece.outputs[0])

    def test_one_piece(self):
        piece = Piece(TWO, [e("x**3 + x**2", "x")])
        self.assertTrue(join_pieces([piece]) == Piece(TWO, [e("2*x + 2", "x")]))
        self.assertTrue(join_pieces([Piece(EMPTY, [e("7", ())])]) == Piece(EMPTY, [e("7", ())]))
        self.assertTrue(join_pieces((Piece(EMPTY, ()),)) == Piece(EMPTY, ()))
        self.assertTrue(join_pieces([Lot(TWO, "m", [e("x", "x")], (), (0,))]) == Piece(TWO, [e("x", "x")]))

    def test_products_of_joined_values(self):
        dice = dice_of(439)
        for _ in range(10):
            one, roots = split_tower(dice, (3, 2))
            left, right = [some_element(dice, 2, with_t=False) for _ in range(2)]
            parts = parted(dice, one, roots, 2)
            found = join_pieces([Piece(part, [left, right, tower_times(part, left, right)]) for part in parts])
            self.same(tower_times(one, found.outputs[0], found.outputs[1]), found.outputs[2])

    def test_letters_of_a_special_system(self):
        found = join_pieces([Piece(tower("t: t", "x: x - 1"), [e("x", "tx")]),
                             Piece(tower("t: t - 1", "x: x - 2"), [()])])
        self.assertTrue(found == Piece(tower("t: t**2 - t", "x: x - t - 1"), [e("1 - t", "tx")]))


class NotOneTest(Case):

    def test_no_piece(self):
        self.refused(NotOne, {}, join_pieces, [])
        self.refused(NotOne, {}, join_pieces, ())

    def test_more_than_one_piece(self):
        for lines in ((("x: x", "y: y"), ("x: x - 1", "y: y**2 - 1")),
                      (("x: x**2 - 2", "y: y - x"), ("x: x**2 - 3", "y: y**3 - x")),
                      (("x: x", "y: y**2 - y", "z: z"), ("x: x - 1", "y: y", "z: z"))):
            self.refused(NotOne, {}, join_pieces, [Piece(tower(*row), ()) for row in lines])

    def test_the_other_errors_come_first(self):
        right = Piece(TWO, [()])
        free = Piece(tower("x: x**2 - t"), [()])
        other = Piece(tower("y: y"), [()])
        within = Piece(tower("x: x - 5"), [e("t*x", "x")])
        for pieces, error in (([right, free, other], HasFree), ([right, other, free], OtherLetters),
                              ([free, other], HasFree), ([within], HasFree), ([right, within, other], HasFree),
                              ([other, right], OtherLetters), ([Piece(EMPTY, ()), other], OtherLetters)):
            self.refused(error, {}, join_pieces, pieces)
        both = Piece(tower("y: y - t"), [e("t", "y")])
        self.refused(OtherLetters, {}, join_pieces, [right, both])
        two = [Piece(tower("x: x", "y: y"), ()), Piece(tower("x: x - 1", "y: y**2 - 1"), ()), both]
        self.refused(OtherLetters, {}, join_pieces, two)
        two[2] = Piece(tower("x: x - 2", "y: y - t"), ())
        self.refused(HasFree, {}, join_pieces, two)


if __name__ == "__main__":
    unittest.main()
