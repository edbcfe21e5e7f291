"""[6.4] to [6.9]: the one form of a set of points, and working with forms."""

import unittest

from neverfactored.element import element_at
from neverfactored.errors import HasFree, NoPlace, NoPoint, OtherLetters
from neverfactored.forms import (
    Form, form_fault, form_has, form_join, form_less, form_meet, form_of, form_of_lots, form_over, same_points,
    system_form, values_at)
from neverfactored.joining import Piece
from neverfactored.machine import Lot, run_once
from neverfactored.plaintowers import plain_towers
from neverfactored.towers import Tower
from tests.support import (
    Case, dice_of, e, points_of, program, some_element, some_program, split_system, split_tower, system, tower)
from tests.test_refining import apart_by_dice

EMPTY = tower()
TWO = tower("x: x**2 - 2")
XY = ("x", "y")
SHAPES = (((1,), (2,), (3,), (4,)), ((1, 2), (2, 1), (2, 2), (3, 1)), ((1, 1, 2), (2, 1, 2), (1, 2, 2), (2, 2, 1)))
# Over x = 0 stands y = 5, over x = 1 stand y = 5 and y = 6, over x = 2 stands y = 7.
FIRST = tower("x: x**2 - 2*x", "y: y - x - 5")
SECOND = tower("x: x - 1", "y: y**2 - 11*y + 30")
# Points that are no ratios, two over each beginning.
ROWS = (tower("x: x**2 - 2", "y: y"), tower("x: x**2 - 2", "y: y - 1"), tower("x: x**2 - 3", "y: y**2 - x"))


def pieces_of(*towers):
    """Return pieces without values."""
    return tuple(Piece(told, ()) for told in towers)


def points_by_dice(dice, turn, many):
    """Return (letters, towers without common points, all their points)."""
    letters = "xyz"[:1 + turn % 3]
    rows = apart_by_dice(dice, SHAPES[turn % 3], many)
    return tuple(letters), [one for one, _ in rows], set().union(*[points for _, points in rows])


def bare(points):
    """Return the dict of points without values."""
    return {point: () for point in points}


class FormTest(Case):

    def test_keeps_what_it_is_given(self):
        form = Form(["x"], [Piece(TWO, ())])
        self.assertEqual(vars(form), {"letters": ("x",), "pieces": pieces_of(TWO), "count": 2})
        self.assertEqual(vars(Form((), ())), {"letters": (), "pieces": (), "count": 0})
        self.assertEqual(vars(Form("xy", [])), {"letters": ("x", "y"), "pieces": (), "count": 0})

    def test_count(self):
        self.same(Form(XY, pieces_of(FIRST, SECOND)).count, 4)
        self.same(Form((), pieces_of(EMPTY)).count, 1)
        # Nothing is checked: neither letters nor order.
        self.same(Form(("z",), pieces_of(SECOND, TWO, SECOND)).count, 6)

    def test_iteration_and_length(self):
        form = Form(XY, pieces_of(FIRST, SECOND))
        self.assertEqual(list(form), list(form.pieces))
        self.assertEqual([piece.tower for piece in form], [FIRST, SECOND])
        self.assertEqual((len(form), len(Form(XY, ()))), (2, 0))
        self.assertEqual(list(Form(XY, [])), [])

    def test_equal(self):
        form = Form(XY, pieces_of(FIRST, SECOND))
        self.assertTrue(form == Form(list(XY), list(pieces_of(FIRST, SECOND))))
        self.assertFalse(form == Form(XY, pieces_of(SECOND, FIRST)))
        self.assertFalse(form == Form(XY, pieces_of(FIRST)))
        self.assertFalse(form == Form(("y", "x"), pieces_of(FIRST, SECOND)))
        self.assertFalse(form == Form(XY, (Piece(FIRST, ((),)), Piece(SECOND, ()))))
        self.assertFalse(Form(("x",), ()) == Form(("y",), ()))
        self.assertTrue(Form(("x",), ()) == Form(["x"], []))

    def test_lists_that_change_later(self):
        letters, pieces = ["x"], [Piece(TWO, ())]
        form = Form(letters, pieces)
        letters.append("y")
        pieces.append(None)
        self.assertEqual((form.letters, form.pieces, form.count), (("x",), pieces_of(TWO), 2))


class FormOfTest(Case):

    def test_at_the_points(self):
        dice = dice_of(443)
        for turn in range(90):
            letters, towers, points = points_by_dice(dice, turn, dice.randint(0, 4))
            form = form_of(letters, towers)
            self.is_form(form, letters, bare(points))
            more = [*towers, *dice.sample(towers, len(towers) // 2)]
            dice.shuffle(more)
            self.assertTrue(form_of(list(letters), tuple(more)) == form)

    def test_the_first_example_of_6_5(self):
        told = [tower("x: x", "y: y - 5"), tower("x: x - 1", "y: y - 5"), tower("x: x - 1", "y: y - 6"),
                tower("x: x - 2", "y: y - 7")]
        form = form_of(XY, told)
        self.assertTrue(form == Form(XY, pieces_of(FIRST, SECOND)))
        self.assertTrue(form_of(XY, told[::-1] + told) == form)
        self.assertTrue(form_of(XY, [SECOND, FIRST, told[3]]) == form)

    def test_of_one_letter_there_is_one_piece(self):
        form = form_of(("x",), [TWO, tower("x: x**2 - 3"), tower("x: x**3 - 2*x")])
        self.assertTrue(form == Form(("x",), pieces_of(tower("x: x**5 - 5*x**3 + 6*x"))))

    def test_points_that_are_no_ratios(self):
        form = form_of(XY, ROWS)
        self.assertTrue(form == Form(XY, pieces_of(tower("x: x**4 - 5*x**2 + 6",
                                                         "y: y**2 + x**2*y - 3*y - x**3 + 2*x"))))
        self.assertIsNone(form_fault(XY, form.pieces))
        for told in ROWS:
            self.assertTrue(same_points(form_meet(form, form_of(XY, [told])), form_of(XY, [told])))

    def test_the_order_of_the_pieces(self):
        told = [tower("x: x - 1", "y: y - 1", "z: z**2 - z"), tower("x: x - 2", "y: y**2 - y", "z: z"),
                tower("x: x - 3", "y: y**2 - y", "z: z**2 - z"), tower("x: x - 4", "y: y", "z: z"),
                tower("x: x - 5", "y: y", "z: z")]
        form = form_of("xyz", told)
        self.assertEqual([piece.tower.degrees for piece in form], [(2, 1, 1), (1, 2, 1), (1, 1, 2), (1, 2, 2)])
        # One beginning with two points over it, among others with one, is a piece of its own.
        form = form_of(XY, [tower("x: x**3 - 2", "y: y"), tower("x: x**3 - 2", "y: y - x"),
                            tower("x: x**2 - 5", "y: y - x")])
        self.assertEqual([piece.tower for piece in form],
                         [tower("x: x**2 - 5", "y: y - x"), tower("x: x**3 - 2", "y: y**2 - x*y")])

    def test_without_towers_and_letters(self):
        self.assertTrue(form_of(("x",), []) == Form(("x",), ()))
        self.assertTrue(form_of(["y", "x"], ()) == Form(("y", "x"), ()))
        self.assertTrue(form_of((), ()) == Form((), ()))
        self.assertTrue(form_of((), [EMPTY]) == Form((), pieces_of(EMPTY)))
        self.assertTrue(form_of([], [EMPTY, EMPTY, Tower((), ())]) == Form((), pieces_of(EMPTY)))

    def test_letters_of_a_special_system(self):
        form = form_of(("t", "x"), [tower("t: t", "x: x"), tower("t: t - 1", "x: x - 1")])
        self.assertTrue(form == Form(("t", "x"), pieces_of(tower("t: t**2 - t", "x: x - t"))))

    def test_errors_tower_by_tower(self):
        free, other = tower("x: x**2 - t"), tower("y: y")
        for told, error in (([TWO, free, other], HasFree), ([TWO, other, free], OtherLetters), ([free], HasFree),
                            ([tower("y: y - t")], OtherLetters), ([EMPTY], OtherLetters),
                            ([TWO, tower("x: x", "y: y")], OtherLetters)):
            self.refused(error, {}, form_of, ("x",), told)
            self.refused(error, {}, form_of, ["x"], tuple(told))
        self.refused(OtherLetters, {}, form_of, (), [TWO])
        self.refused(OtherLetters, {}, form_of, ("y", "x"), [FIRST])


class FormOfLotsTest(Case):

    def test_lots_of_a_program(self):
        dice = dice_of(449)
        for turn in range(80):
            one, roots = split_tower(dice, SHAPES[turn % 3][turn % 4])
            told = some_program(dice, one.letters)
            lots = list(run_once(told, one))
            for mark in sorted({lot.mark for lot in lots}):
                marked = [lot for lot in lots if lot.mark == mark]
                values = {point: tuple(element_at(output, point) for output in lot.outputs)
                          for lot in marked for point in self.whole_points(lot.tower, points_of(roots))}
                form = form_of_lots(one.letters, marked)
                self.is_form(form, one.letters, values)
                self.assertTrue(form_of_lots(list(one.letters), tuple(marked[::-1])) == form)
                self.assertTrue(form_of_lots(one.letters, form.pieces) == form)

    def test_pieces_with_outputs_that_are_not_reduced(self):
        dice = dice_of(457)
        for turn in range(60):
            letters, towers, points = points_by_dice(dice, turn, dice.randint(0, 4))
            pieces = [Piece(told, [some_element(dice, len(letters), power=4, with_t=False) for _ in range(turn % 4)])
                      for told in towers]
            values = {point: tuple(element_at(output, point) for output in piece.outputs)
                      for piece in pieces for point in self.whole_points(piece.tower, points)}
            self.is_form(form_of_lots(letters, pieces), letters, values)

    def test_of_no_letter_and_without_lots(self):
        self.assertTrue(form_of_lots((), [Piece(EMPTY, [e("5", ())])]) == Form((), (Piece(EMPTY, (e("5", ()),)),)))
        self.assertTrue(form_of_lots(("x",), []) == Form(("x",), ()))
        self.assertTrue(form_of_lots([], ()) == Form((), ()))

    def test_errors_lot_by_lot(self):
        right, other = Piece(TWO, [()]), Piece(tower("y: y"), [()])
        free, within = Piece(tower("x: x - t"), [()]), Lot(tower("x: x"), "m", [e("x + t", "x")], (), (0,))
        falls = Piece(tower("x: x"), [e("t*x", "x")])
        for told, error in (([right, free, other], HasFree), ([right, other, within], OtherLetters),
                            ([within, other], HasFree), ([falls], HasFree), ([right, falls], HasFree),
                            ([Piece(tower("y: y"), [e("t", "y")])], OtherLetters)):
            self.refused(error, {}, form_of_lots, ("x",), told)
        self.refused(OtherLetters, {}, form_of_lots, (), [right])


class SystemFormTest(Case):

    def test_at_the_points(self):
        dice = dice_of(461)
        doubles = 0
        for turn in range(60):
            one, roots = split_system(dice, SHAPES[turn % 3][turn // 3 % 4])
            points = set(points_of(roots))
            self.is_form(system_form(one), one.letters, bare(points))
            doubles += len(points) < one.count
        self.assertGreater(doubles, 15)

    def test_followed_by_hand(self):
        self.assertTrue(system_form(system("x: x**2 - x", "y: y**2 - x")) ==
                        Form(XY, pieces_of(tower("x: x", "y: y"), tower("x: x - 1", "y: y**2 - 1"))))
        self.assertTrue(system_form(system("x: x**4 - 4*x**2 + 4")) == Form(("x",), pieces_of(TWO)))
        self.assertTrue(system_form(system("x: x**2 - 2", "y: y**2 - x**3")) ==
                        Form(XY, pieces_of(tower("x: x**2 - 2", "y: y**2 - 2*x"))))

    def test_special_systems(self):
        special = system("x: x**2 - t", free=True).special(((0, 1), (-2, 1), (1, 1)))
        self.assertTrue(system_form(special) == Form(
            ("t", "x"), pieces_of(tower("t: t", "x: x"), tower("t: t - 2", "x: x**2 - 2"))))

    def test_the_free_letter(self):
        self.refused(HasFree, {}, system_form, system("x: x**2 - t", free=True))
        self.refused(HasFree, {}, system_form, system("x: x**2 - 2", free=True))


class FormOverTest(Case):

    def test_at_the_points(self):
        dice = dice_of(463)
        for turn in range(45):
            letters, towers, points = points_by_dice(dice, turn, dice.randint(0, 4))
            form = form_of(letters, towers)
            for k in range(len(letters) + 1):
                self.is_form(form_over(form, k), letters[:k], bare({point[:k] for point in points}))

    def test_of_all_letters(self):
        form = form_of_lots(XY, [Piece(FIRST, [e("x")]), Piece(SECOND, [e("y")])])
        self.assertTrue(form_over(form, 2) == Form(XY, pieces_of(FIRST, SECOND)))
        self.assertTrue(form_over(form, 1) == Form(("x",), pieces_of(tower("x: x**3 - 3*x**2 + 2*x"))))
        self.assertTrue(form_over(form, 0) == Form((), pieces_of(EMPTY)))

    def test_of_no_point_and_no_letter(self):
        for k in range(3):
            self.assertTrue(form_over(Form(XY, ()), k) == Form(XY[:k], ()))
        self.assertTrue(form_over(Form((), pieces_of(EMPTY)), 0) == Form((), pieces_of(EMPTY)))

    def test_no_place(self):
        form = form_of(XY, [FIRST])
        for k in (-1, 3, 4, True, False):
            self.refused(NoPlace, {"place": k}, form_over, form, k)
        self.refused(NoPlace, {"place": 1}, form_over, Form((), ()), 1)
        self.refused(NoPlace, {"place": -1}, form_over, Form(XY, ()), -1)


class MeetJoinLessTest(Case):

    def test_at_the_points(self):
        dice = dice_of(467)
        common = 0
        for turn in range(60):
            letters, towers, points = points_by_dice(dice, turn, dice.randint(0, 3))
            _, more, others = points_by_dice(dice, turn, dice.randint(0, 3))
            if turn % 4 == 0:
                more, others = towers[:1] + more, others | set(self.whole_points_of(towers[:1], points))
            one, other = form_of(letters, towers), form_of(letters, more)
            self.is_form(form_meet(one, other), letters, bare(points & others))
            self.is_form(form_join(one, other), letters, bare(points | others))
            self.is_form(form_less(one, other), letters, bare(points - others))
            self.assertTrue(form_meet(one, other) == form_meet(other, one))
            self.assertTrue(form_join(one, other) == form_join(other, one))
            self.assertIs(same_points(one, other), points == others)
            common += bool(points & others)
        self.assertGreater(common, 15)

    def whole_points_of(self, towers, points):
        """Return those of the points that the towers have."""
        return [point for one in towers for point in self.whole_points(one, points)]

    def test_equal_forms_and_empty_ones(self):
        one, empty = form_of(XY, ROWS), Form(XY, ())
        for left, right, met, joined, less in ((one, one, one, one, empty), (one, empty, empty, one, one),
                                               (empty, one, empty, one, empty), (empty,) * 5):
            self.assertTrue(form_meet(left, right) == met)
            self.assertTrue(form_join(left, right) == joined)
            self.assertTrue(form_less(left, right) == less)

    def test_no_common_point(self):
        one, other = form_of(("x",), [TWO]), form_of(("x",), [tower("x: x**2 - 3")])
        self.assertTrue(form_meet(one, other) == Form(("x",), ()))
        self.assertTrue(form_less(one, other) == one)
        self.assertTrue(form_join(one, other) == form_of(("x",), [tower("x: x**4 - 5*x**2 + 6")]))

    def test_values_are_left_out(self):
        one = form_of_lots(("x",), [Piece(TWO, [e("x", "x")])])
        for call in (form_meet, form_join):
            self.assertTrue(call(one, one) == Form(("x",), pieces_of(TWO)))
        self.assertTrue(form_less(one, Form(("x",), ())) == Form(("x",), pieces_of(TWO)))

    def test_of_no_letter(self):
        one, empty = Form((), pieces_of(EMPTY)), Form((), ())
        self.assertTrue(form_meet(one, one) == one and form_join(one, empty) == one and form_less(one, one) == empty)

    def test_other_letters(self):
        for one, other in ((form_of(("x",), [TWO]), form_of(("y",), [tower("y: y**2 - 2")])),
                           (Form(("x",), ()), Form(("y",), ())), (Form(XY, ()), Form(("y", "x"), ())),
                           (Form(XY, pieces_of(FIRST)), Form(("x",), ())), (Form((), ()), Form(("x",), ()))):
            for call in (form_meet, form_join, form_less):
                self.refused(OtherLetters, {}, call, one, other)
                self.refused(OtherLetters, {}, call, other, one)


class SamePointsTest(Case):

    def test_values_do_not_count(self):
        one = form_of_lots(("x",), [Piece(TWO, [e("x", "x")])])
        for other in (form_of(("x",), [TWO]), form_of_lots(("x",), [Piece(TWO, [e("1", "x")])])):
            self.assertIs(same_points(one, other), True)
            self.assertFalse(one == other)
        self.assertIs(same_points(one, form_of(("x",), [tower("x: x**2 - 3")])), False)
        self.assertIs(same_points(one, Form(("x",), ())), False)
        self.assertIs(same_points(form_of(XY, [FIRST, SECOND]), form_of(XY, [FIRST])), False)

    def test_unlike_letters(self):
        self.assertIs(same_points(form_of(("x",), [TWO]), form_of(("y",), [tower("y: y**2 - 2")])), False)
        self.assertIs(same_points(Form(("x",), ()), Form(("y",), ())), False)
        self.assertIs(same_points(Form((), ()), Form(("y",), ())), False)
        self.assertIs(same_points(Form(("x",), ()), Form(["x"], [])), True)
        self.assertIs(same_points(Form((), ()), Form((), ())), True)
        self.assertIs(same_points(Form((), pieces_of(EMPTY)), Form((), ())), False)


class PointsTest(Case):

    def test_at_points_and_elsewhere(self):
        dice = dice_of(479)
        for turn in range(30):
            letters, towers, points = points_by_dice(dice, turn, dice.randint(0, 3))
            pieces = [Piece(told, [some_element(dice, len(letters), with_t=False) for _ in range(2)])
                      for told in towers]
            form = form_of_lots(letters, pieces)
            for piece in pieces:
                for point in self.whole_points(piece.tower, points):
                    self.assertIs(form_has(form, point), True)
                    self.same(values_at(form, point), tuple(element_at(output, point) for output in piece.outputs))
            for _ in range(5):
                point = tuple((dice.randint(-2, 2), 1) for _ in letters)
                self.assertIs(form_has(form, list(point)), point in points)
                if point not in points:
                    self.refused(NoPoint, {}, values_at, form, point)

    def test_followed_by_hand(self):
        form = form_of_lots(XY, [Piece(FIRST, [e("x"), e("3")]), Piece(SECOND, [e("x*y - 1"), ()])])
        self.assertEqual(values_at(form, [(2, 1), (7, 1)]), ((2, 1), (3, 1)))
        self.assertEqual(values_at(form, ((1, 1), (6, 1))), ((5, 1), (0, 1)))
        self.refused(NoPoint, {}, values_at, form, ((1, 1), (7, 1)))
        self.assertEqual(values_at(form_of(XY, [FIRST]), ((0, 1), (5, 1))), ())
        self.assertIs(form_has(form_of(("x",), [TWO]), ((1, 1),)), False)

    def test_of_no_letter_and_no_point(self):
        form = form_of_lots((), [Piece(EMPTY, [e("5/2", ())])])
        self.assertIs(form_has(form, ()), True)
        self.assertEqual(values_at(form, []), ((5, 2),))
        self.assertIs(form_has(Form((), ()), ()), False)
        self.refused(NoPoint, {}, values_at, Form((), ()), ())
        self.refused(NoPoint, {}, values_at, Form(("x",), ()), ((1, 1),))


class FaultTest(Case):

    def judged(self, word, letters, *towers):
        """Check the word for pieces of these towers."""
        self.assertEqual(form_fault(letters, pieces_of(*towers)), word)
        self.assertEqual(form_fault(list(letters), list(pieces_of(*towers))), word)

    def test_forms_are_right(self):
        dice = dice_of(487)
        for turn in range(40):
            letters, towers, _ = points_by_dice(dice, turn, dice.randint(0, 4))
            form = form_of(letters, towers)
            self.judged(None, letters, *[piece.tower for piece in form])
            if len(form) > 1:
                self.judged("order", letters, *[piece.tower for piece in form][::-1])
        self.judged(None, (), EMPTY)
        self.judged(None, ())
        self.judged(None, ("x",))
        self.judged(None, XY, *[piece.tower for piece in form_of(XY, ROWS)])
        self.assertIsNone(form_fault(("x",), [Piece(TWO, ["no", "element"])]))

    def test_each_word(self):
        self.judged("letters", ("y",), TWO)
        self.judged("letters", XY, TWO)
        self.judged("letters", ("y", "x"), FIRST)
        self.judged("letters", (), TWO)
        self.judged("free", ("x",), tower("x: x**2 - t"))
        self.judged("plain", ("x",), tower("x: x**2"))
        self.judged("plain", XY, FIRST, tower("x: x**2 - x", "y: y**2 - x"))
        self.judged("order", XY, SECOND, FIRST)
        self.judged("order", XY, tower("x: x", "y: y"), tower("x: x - 1", "y: y"))
        self.judged("order", "xyz", tower("x: x", "y: y**2 - y", "z: z"), tower("x: x", "y: y - 5", "z: z"))
        self.judged("common", XY, FIRST, tower("x: x", "y: y**2 - 1"))
        self.judged("common", XY, tower("x: x**2 - 2", "y: y"), tower("x: x**3 - 2*x", "y: y**2 - 1"))
        self.judged(None, XY, FIRST, SECOND)

    def test_two_pieces_of_one_letter_or_none(self):
        self.judged("order", ("x",), TWO, tower("x: x**2 - 3"))
        self.judged("order", ("x",), TWO, tower("x: x**3 - 3"))
        self.judged("order", (), EMPTY, EMPTY)

    def test_common_hangs_on_the_last_unlike_degree(self):
        # The degrees of z are alike and those of y are not, so the towers over x must have no common point.
        one = tower("x: x", "y: y - 7", "z: z")
        self.judged("common", "xyz", one, tower("x: x**2 - x", "y: y**2 - y", "z: z"))
        self.judged(None, "xyz", one, tower("x: x**2 - 1", "y: y**2 - y", "z: z"))
        # The degrees of z are unlike, so the towers over x and y must have none; that those over x have does not count.
        self.judged(None, "xyz", one, tower("x: x", "y: y", "z: z**2 - z"))
        self.judged("common", "xyz", one, tower("x: x", "y: y - 7", "z: z**2 - z"))
        self.judged(None, "xyz", one, tower("x: x", "y: y**2 - y", "z: z**2 - z"))

    def test_each_word_of_all_pieces_before_the_next_one(self):
        free, double = tower("x: x - t", "y: y"), tower("x: x**2", "y: y")
        self.judged("letters", XY, free, double, SECOND, FIRST, TWO)
        self.judged("free", XY, double, SECOND, FIRST, free)
        self.judged("plain", XY, SECOND, FIRST, double)
        self.judged("plain", XY, SECOND, SECOND, tower("x: x", "y: y**2 - 2*y + 1"))
        self.judged("order", XY, tower("x: x - 1", "y: y"), SECOND, SECOND)
        self.judged("order", XY, FIRST, tower("x: x", "y: y**2 - 1"), FIRST)

    def test_t_as_a_letter(self):
        self.judged(None, ("t", "x"), tower("t: t**2 - 2", "x: x - t"))
        self.judged("letters", ("t",), tower("t: t**2 - 2", "x: x - t"))


class OneFormTest(Case):

    def test_whichever_towers_and_order_told_it(self):
        dice = dice_of(491)
        for lines in (("x: x**2 - 2", "y: y**3 - x*y"), ("x: x**3 - 2*x", "y: y**2 - x - 1"),
                      ("x: x**2 - 3*x + 1", "y: y**2 - 2", "z: z**2 - x*z")):
            one = system(*lines)
            tests = ("x = y", "x * x = 2", "y = 0 or x = 0", "y * y = 2 or y = 1")
            forms = []
            for test in tests:
                towers = [lot.tower for whole in plain_towers(one)
                          for lot in run_once(program("if " + test, "stop m", "end"), whole)]
                dice.shuffle(towers)
                forms.append(form_of(one.letters, towers))
            self.assertTrue(all(form == system_form(one) for form in forms))
            self.assertIsNone(form_fault(one.letters, forms[0].pieces))


if __name__ == "__main__":
    unittest.main()
