"""[8.5] to [8.9]: the values of a mark over all points of a system that have it."""

import unittest

from neverfactored.errors import HasFree, LackingLetter, NoMark, NoneMarked, NoPlace
from neverfactored.forms import Form, form_of, system_form
from neverfactored.joining import Piece
from neverfactored.markvalues import (
    mark_equation, mark_values, marks_counted, mean_of_mark, sum_of_mark, taken_points)
from neverfactored.polys import poly_degree, poly_times
from neverfactored.ratios import ratio_negative, ratio_over, ratio_plus
from neverfactored.shortening import shorten_program
from tests.support import Case, dice_of, outcomes_at, p, program, some_program, split_system, system, tower

PAIR = system("x: x**2 - x")
ROOTS = system("x: x**2 - 2", "y: y**2 - 2")
SHAPES = ((2,), (4,), (2, 2), (3, 2), (2, 3), (2, 1, 2), (2, 2, 2))
CALLS = (sum_of_mark, mean_of_mark, mark_values, mark_equation, lambda *told: taken_points(*told, 1))
THREE = program("if x = 1", "stop m x, x * y, 5", "end", "if y = x", "stop n y", "end", "stop m x, 0, y")


class MarksTest(Case):

    def test_at_the_points(self):
        dice = dice_of(613)
        marks = set()
        for turn in range(70):
            one, roots = split_system(dice, SHAPES[turn % len(SHAPES)])
            told = some_program(dice, one.letters)
            rows = [row.mark for row in outcomes_at(told, one, roots).values()]
            found = marks_counted(told, one)
            self.assertEqual(found, tuple((mark, rows.count(mark)) for mark in sorted(set(rows))))
            self.same(tuple(points for _, points in found), tuple(points for _, points in found))
            self.assertEqual(sum(points for _, points in found), system_form(one).count)
            marks.update(rows)
        self.assertLessEqual({"broken", "end", "m", "n", "p"}, marks)

    def test_followed_by_hand(self):
        told = program("if x = 0", "stop m", "end", "let aa = 1 / (x - 1)")
        self.assertEqual(marks_counted(told, system("x: x**4 - 3*x**3 + 2*x**2")),
                         (("broken", 1), ("end", 1), ("m", 1)))
        self.assertEqual(marks_counted(program("if x = y", "stop m", "end"), ROOTS), (("end", 2), ("m", 2)))

    def test_double_roots_count_once(self):
        self.assertEqual(marks_counted(program("stop m x"), system("x: x**4 - 4*x**2 + 4")), (("m", 2),))

    def test_errors(self):
        free = system("x: x**2 - 2", free=True)
        self.refused(HasFree, {}, marks_counted, program("stop m y"), free)
        self.refused(LackingLetter, {"letter": "t"}, marks_counted, program("stop m y + t"), PAIR)


class ValuesTest(Case):

    def test_at_the_points(self):
        dice = dice_of(617)
        looked, several = 0, 0
        for turn in range(110):
            one, roots = split_system(dice, SHAPES[turn % len(SHAPES)])
            told = some_program(dice, one.letters)
            rows = outcomes_at(told, one, roots)
            for mark, many in told.marks:
                for place in range(many):
                    values = {point: row.outputs[place] for point, row in rows.items() if row.mark == mark}
                    several += self.right_values(told, one, mark, place, values)
                    looked += 1
        self.assertGreater(looked, 60)
        self.assertGreater(several, 10)

    def right_values(self, told, one, mark, place, values):
        """Check what is told of a mark with these values, a dict; return whether some are taken more than once."""
        total, equation = (0, 1), p("1")
        taken = {}
        for value in values.values():
            total = ratio_plus(total, value)
            equation = poly_times(equation, (ratio_negative(value), (1, 1)))
            taken[value] = taken.get(value, 0) + 1
        polys = {}
        for value, m in taken.items():
            polys[m] = poly_times(polys.get(m, p("1")), (ratio_negative(value), (1, 1)))
        self.same(sum_of_mark(told, one, mark, place), total)
        self.same(mark_equation(told, one, mark, place), equation)
        self.same(mark_values(told, one, mark, place), tuple(sorted(polys.items())))
        if values:
            self.same(mean_of_mark(told, one, mark, place), ratio_over(total, (len(values), 1)))
        else:
            self.refused(NoneMarked, {}, mean_of_mark, told, one, mark, place)
        for m in [*polys, 0, -1, -2, 99]:
            form = taken_points(told, one, mark, place, m)
            self.is_form(form, one.letters, {point: () for point, value in values.items() if taken[value] == m})
            self.assertEqual(form.count, m * poly_degree(polys[m]) if m in polys else 0)
        return any(m > 1 for m in polys)

    def test_points_that_are_no_ratios(self):
        told = program("stop m x + y, x * y, 1 / x")
        for place, equation, rows in ((0, "t**4 - 8*t**2", ((1, p("t**2 - 8")), (2, p("t")))),
                                      (1, "t**4 - 8*t**2 + 16", ((2, p("t**2 - 4")),)),
                                      (2, "t**4 - t**2 + 1/4", ((2, p("t**2 - 1/2")),))):
            self.same(sum_of_mark(told, ROOTS, "m", place), (0, 1))
            self.same(mean_of_mark(told, ROOTS, "m", place), (0, 1))
            self.same(mark_equation(told, ROOTS, "m", place), p(equation))
            self.same(mark_values(told, ROOTS, "m", place), rows)
        self.assertTrue(taken_points(told, ROOTS, "m", 0, 2) == form_of(("x", "y"), [tower("x: x**2 - 2", "y: y + x")]))
        self.assertTrue(taken_points(told, ROOTS, "m", 0, 1) == form_of(("x", "y"), [tower("x: x**2 - 2", "y: y - x")]))
        self.assertTrue(taken_points(told, ROOTS, "m", 1, 2) == system_form(ROOTS))
        self.assertTrue(taken_points(told, ROOTS, "m", 1, 1) == Form(("x", "y"), ()))

    def test_values_alike_in_several_lots(self):
        one = system("x: x**3 - 3*x**2 + 2*x")
        told = program("if x = 0", "stop m 1", "end", "if x = 1", "stop m x", "end", "stop m x + 1")
        self.same(mark_values(told, one, "m", 0), ((1, p("t - 3")), (2, p("t - 1"))))
        self.same((sum_of_mark(told, one, "m", 0), mean_of_mark(told, one, "m", 0)), ((5, 1), (5, 3)))
        self.assertTrue(taken_points(told, one, "m", 0, 2) == Form(("x",), [Piece(tower("x: x**2 - x"), ())]))

    def test_marks_with_three_values(self):
        one = system("x: x**2 - x", "y: y**2 - 1")
        self.assertEqual([sum_of_mark(THREE, one, "m", place) for place in range(3)], [(2, 1), (0, 1), (10, 1)])
        self.assertEqual([mark_equation(THREE, one, "m", place) for place in range(3)],
                         [p("t**4 - 2*t**3 + t**2"), p("t**4 - t**2"), p("t**4 - 10*t**3 + 24*t**2 + 10*t - 25")])

    def test_a_mark_that_no_point_has(self):
        told = program("if x = 5", "stop m x, 2", "end", "stop n")
        for place in (0, 1):
            self.same(sum_of_mark(told, PAIR, "m", place), (0, 1))
            self.same(mark_values(told, PAIR, "m", place), ())
            self.same(mark_equation(told, PAIR, "m", place), ((1, 1),))
            self.refused(NoneMarked, {}, mean_of_mark, told, PAIR, "m", place)
            for m in (-1, 0, 1, 2):
                self.assertTrue(taken_points(told, PAIR, "m", place, m) == Form(("x",), ()))

    def test_double_roots_count_once(self):
        one = system("x: x**2 - 2*x + 1", "y: y**2 - x")
        told = program("stop m x + y")
        self.same((sum_of_mark(told, one, "m", 0), mean_of_mark(told, one, "m", 0)), ((2, 1), (1, 1)))
        self.same(mark_equation(told, one, "m", 0), p("t**2 - 2*t"))

    def test_special_systems(self):
        special = system("x: x**2 - t", free=True).special(((-2, 1), (0, 1), (1, 1)))
        self.same(mark_values(program("stop m t"), special, "m", 0), ((2, p("t**2 - 2")),))
        self.assertTrue(taken_points(program("stop m t"), special, "m", 0, 2) == system_form(special))


class AlikeTest(Case):

    def test_alike_programs(self):
        dice = dice_of(619)
        for turn in range(40):
            one, _ = split_system(dice, SHAPES[turn % len(SHAPES)])
            told = some_program(dice, one.letters, 3)
            other = shorten_program(told, one)
            self.assertEqual(marks_counted(told, one), marks_counted(other, one))
            for mark, many in other.marks:
                for place in range(many):
                    for call in (sum_of_mark, mark_values, mark_equation):
                        self.same(call(told, one, mark, place), call(other, one, mark, place))
                    self.assertTrue(taken_points(told, one, mark, place, 1) == taken_points(other, one, mark, place, 1))

    def test_tests_in_another_order(self):
        one = program("if x = y", "stop m x, 1", "end", "stop m y, x")
        other = program("if x != y", "stop m -x, -y", "end", "stop m y, x * y / 2")
        for place in range(2):
            for call in CALLS[:4]:
                self.same(call(one, ROOTS, "m", place), call(other, ROOTS, "m", place))
            self.assertTrue(taken_points(one, ROOTS, "m", place, 2) == taken_points(other, ROOTS, "m", place, 2))

    def test_letters_told_in_another_order(self):
        one = system("x: x**2 - 2", "y: y**3 - y - 1")
        other = system("y: y**3 - y - 1", "x: x**2 - 2")
        told = program("if x * x = y", "stop m x", "end", "stop m x + y * y")
        self.assertEqual(marks_counted(told, one), marks_counted(told, other))
        for call in CALLS[:4]:
            self.same(call(told, one, "m", 0), call(told, other, "m", 0))

    def test_another_letter_for_x(self):
        # x is 2 * x + 1 throughout.
        one = system("x: x**3 - 3*x + 1", "y: y**2 - x")
        other = system("x: x**3 + 3/2*x**2 - 1/8", "y: y**2 - 2*x - 1")
        for text in ("x + y", "1 / x", "x * y - x ** 2"):
            told = program("stop m " + text)
            changed = program("stop m " + text.replace("x", "(2 * x + 1)"))
            for call in CALLS[:4]:
                self.same(call(told, one, "m", 0), call(changed, other, "m", 0))


class ErrorsTest(Case):

    def test_in_their_order(self):
        free = system("x: x**2 - 2", free=True)
        told = program("if x = 5", "stop m y, 1", "end", "stop n")
        for call in CALLS:
            self.refused(HasFree, {}, call, told, free, "zz", -1)
            self.refused(LackingLetter, {"letter": "y"}, call, told, PAIR, "zz", -1)
            for mark in ("zz", "broken", "end", "mm"):
                self.refused(NoMark, {"mark": mark}, call, told, ROOTS, mark, -1)
                self.refused(NoMark, {"mark": mark}, call, told, ROOTS, mark, 0)
            for place in (-1, 2, 3, True, False):
                self.refused(NoPlace, {"place": place}, call, told, ROOTS, "m", place)
            for place in (0, 1, -1):
                self.refused(NoPlace, {"place": place}, call, told, ROOTS, "n", place)

    def test_marks_of_lines_that_no_way_comes_to(self):
        told = program("stop n", "stop m 1")
        self.same(sum_of_mark(told, PAIR, "m", 0), (0, 1))
        self.refused(NoMark, {"mark": "m"}, sum_of_mark, program("stop n"), PAIR, "m", 0)

    def test_broken_and_end_though_points_have_them(self):
        told = program("let aa = 1 / x")
        self.assertEqual(marks_counted(told, PAIR), (("broken", 1), ("end", 1)))
        for mark in ("broken", "end"):
            self.refused(NoMark, {"mark": mark}, mark_values, told, PAIR, mark, 0)


if __name__ == "__main__":
    unittest.main()
