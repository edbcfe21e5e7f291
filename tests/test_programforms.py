"""[6.10]: what a program does at all points of a system, as one form for each mark."""

import unittest

from neverfactored.errors import HasFree, LackingLetter
from neverfactored.forms import Form, form_fault, system_form
from neverfactored.joining import Piece
from neverfactored.machine import run_system
from neverfactored.parting import meet_towers
from neverfactored.programforms import program_form
from neverfactored.reducing import reduced
from neverfactored.systems import System
from tests.support import (
    Case, changed_program, dice_of, e, outcomes_at, program, some_program, split_system, system, tower)

SHAPES = ((2,), (4,), (2, 2), (3, 2), (2, 3), (2, 1, 2), (2, 2, 2))


class ProgramFormTest(Case):

    def test_at_the_points(self):
        dice = dice_of(499)
        marks = set()
        for turn in range(90):
            one, roots = split_system(dice, SHAPES[turn % len(SHAPES)])
            told = some_program(dice, one.letters)
            outcomes = outcomes_at(told, one, roots)
            found = program_form(told, one)
            self.assertIs(found.__class__, tuple)
            self.assertEqual([mark for mark, _ in found], sorted({row.mark for row in outcomes.values()}))
            for mark, form in found:
                values = {point: row.outputs for point, row in outcomes.items() if row.mark == mark}
                self.is_form(form, one.letters, values)
                marks.add(mark)
            self.assertEqual(sum(form.count for _, form in found), len(outcomes))
        self.assertLessEqual({"broken", "end", "m", "n", "p"}, marks)

    def test_equal_exactly_for_programs_that_do_the_same(self):
        dice = dice_of(503)
        seen = {True: 0, False: 0}
        for turn in range(60):
            one, roots = split_system(dice, SHAPES[turn % len(SHAPES)])
            told = some_program(dice, one.letters)
            other = changed_program(dice, told)
            rows, others = outcomes_at(told, one, roots), outcomes_at(other, one, roots)
            same = all((rows[point].mark, rows[point].outputs) == (others[point].mark, others[point].outputs)
                       for point in rows)
            self.assertIs(program_form(told, one) == program_form(other, one), same)
            seen[same] += 1
        self.assertGreater(min(seen.values()), 12)

    def test_tests_in_another_order(self):
        one = system("x: x**4 - 5*x**2 + 6", "y: y**2 - x")
        first = program("if x * x = 2", "if y = 1", "stop m x", "else", "stop n y", "end", "end", "if x = 3", "end",
                        "stop m 1 / x")
        second = program("if y ** 4 != 2", "stop m x ** 3 / (x * x * x * x)", "end", "if y != 1",
                         "stop n y", "end", "stop m x")
        self.assertTrue(program_form(first, one) == program_form(second, one))
        self.assertEqual([(mark, form.count) for mark, form in program_form(first, one)], [("m", 4), ("n", 4)])

    def test_values_over_points_that_are_parted(self):
        found = program_form(program("if x = y", "stop m 1", "else", "stop m 3", "end"),
                             system("x: x**2 - 2", "y: y**2 - 2"))
        self.assertTrue(found == (("m", Form(("x", "y"), [Piece(tower("x: x**2 - 2", "y: y**2 - 2"),
                                                                [e("2 - 1/2*x*y")])])),))

    def test_points_that_are_no_ratios(self):
        one = system("x: x**3 - 2*x", "y: y**2 - x*y - 1")
        told = program("if x * x = 2", "let aa = 1 / (y - 1)", "else", "let aa = x / y", "end", "if y = x + 1 or aa = 0",
                       "stop m aa, x", "end", "stop n aa")
        found = program_form(told, one)
        self.assertEqual(sum(form.count for _, form in found), system_form(one).count)
        forms = dict(found)
        for _, form in found:
            self.assertIsNone(form_fault(one.letters, form.pieces))
        for lot in run_system(told, one):
            count = 0
            for piece in forms[lot.mark]:
                for part in meet_towers(lot.tower, piece.tower)[0]:
                    count += part.count
                    for output, value in zip(lot.outputs, piece.outputs):
                        self.same(reduced(part, output), reduced(part, value))
            self.assertEqual(count, lot.tower.count)

    def test_broken_and_end(self):
        one = system("x: x**3 - x")
        found = program_form(program("if 1 / x = 1", "stop m x", "end"), one)
        self.assertTrue(found == (("broken", Form(("x",), [Piece(tower("x: x"), ())])),
                                  ("end", Form(("x",), [Piece(tower("x: x + 1"), ())])),
                                  ("m", Form(("x",), [Piece(tower("x: x - 1"), [e("1", "x")])]))))
        self.assertTrue(program_form(program(), one) == (("end", system_form(one)),))

    def test_double_roots_count_once(self):
        found = program_form(program("stop m x"), system("x: x**4 - 4*x**2 + 4"))
        self.assertTrue(found == (("m", Form(("x",), [Piece(tower("x: x**2 - 2"), [e("x", "x")])])),))

    def test_special_systems(self):
        special = system("x: x**2 - t", free=True).special(((0, 1), (-1, 1), (1, 1)))
        found = program_form(program("if t = x", "stop m t", "end", "stop n t + x"), special)
        self.assertTrue(found == (("m", Form(("t", "x"), [Piece(tower("t: t**2 - t", "x: x - t"), [e("t", "tx")])])),
                                  ("n", Form(("t", "x"), [Piece(tower("t: t - 1", "x: x + 1"), [()])]))))

    def test_errors(self):
        free = system("x: x**2 - t", free=True)
        self.refused(HasFree, {}, program_form, program("stop m y"), free)
        self.refused(HasFree, {}, program_form, program("stop m t"), free)
        self.refused(HasFree, {}, program_form, program(), system("x: x**2 - 2", free=True))
        bound = system("x: x**2 - 2")
        self.refused(LackingLetter, {"letter": "t"}, program_form, program("stop m y + t"), bound)
        self.refused(LackingLetter, {"letter": "a"}, program_form, program("for 0 times", "stop m x + a", "end"), bound)
        self.refused(LackingLetter, {"letter": "y"}, program_form, program("stop m y"),
                     System(["t"], [e("t**2 - 2", ["t"])], special=True))


if __name__ == "__main__":
    unittest.main()
