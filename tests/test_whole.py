"""What the document promises over the whole program: [0.5], [0.6], [0.7], [0.8]."""

import copy
import importlib
import inspect
import unittest

from neverfactored import errors
from neverfactored.answerrows import answer_rows
from neverfactored.divisors import Divided, common_divisors, zero_parts
from neverfactored.element import coefficients_of, element_at, from_coefficients, make_element
from neverfactored.forms import (
    Form, form_fault, form_has, form_join, form_less, form_meet, form_of, form_of_lots, form_over, system_form,
    values_at)
from neverfactored.freelots import FreeLot
from neverfactored.freeruns import FreeRun, free_outcome, free_run
from neverfactored.inverses import divided_fault, divisions, inverses, inverses_fault
from neverfactored.joining import Piece, join_pieces
from neverfactored.lotsoft import count_lots, lot_of_t, same_for_all
from neverfactored.machine import Lot, run_once, run_system
from neverfactored.markvalues import mark_equation, mark_values, marks_counted, taken_points
from neverfactored.notes import Notes
from neverfactored.outcomes import lots_at, lots_by_answers, lots_fault, outcome_at
from neverfactored.parting import carry_tower, meet_towers, parts_fault, zero_fault
from neverfactored.partings import Parting, partings_of
from neverfactored.plainruns import Outcome, run_at
from neverfactored.plaintowers import plain_towers, plain_uppers
from neverfactored.polys import make_poly
from neverfactored.prefixes import Saying, ask_saying, kept_points
from neverfactored.programforms import program_form
from neverfactored.programs import Program
from neverfactored.reducing import (
    Reduction, basis_of, combined_element, coordinates_of, multiply_table, reduction_fault, told_reduction)
from neverfactored.refining import apart_towers, counted_beginnings, less_towers, refine_towers
from neverfactored.sameness import Apart, apart_fault, apart_points, programs_alike
from neverfactored.shortening import cut_sure_ways, drop_idle, shorten_program
from neverfactored.sums import full_equation, least_equation, sum_over
from neverfactored.sureways import idle_lines, sure_tests, sure_ways, tests_counted
from neverfactored.systems import System, system_tower
from neverfactored.towers import Tower, has_point, tower_set_t
from neverfactored.uppers import trim_upper, upper_over, upper_slope, upper_times
from neverfactored.valuetables import value_table
from neverfactored.ways import depth_of, names_known, partner_lines
from tests.support import Case, e, p, parsed, program, q, system, tower, u

TWO = tower("x: x**2 - 2")
PAIR = tower("x: x**2 - x")
ZERO, UNIT = tower("x: x"), tower("x: x - 1")
ROOTS = system("x: x**2 - 2", "y: y**2 - 2")
FREE = system("x: x**2 - t", free=True)
TOLD = program("if x = 1", "stop m x, 2", "end", "let aa = 1 / x", "stop n aa")
OTHER = program("stop n 1 / x")
LOT = Lot(PAIR, "m", [e("x", "x")], [(0, 0, True)], [0, 1])
UPPER = [e("x", "x"), (), e("1", "x")]
NAMES = ("answerrows divisors element elementtext errors forms freelots freeruns inverses joining lotsoft machine "
         "markvalues notes outcomes parting partings plainruns plaintowers polys prefixes programforms programs "
         "programtext quotients ratios reducing refining sameness shortening sums sureways systems systemtext towers "
         "uppers valuetables ways").split()
# Each call with lists wherever sequences may be passed.
CALLS = (
    (make_poly, [(1, 1), (0, 1)]), (make_element, [[(1, 0), q("2")], [(0, 0), q("t")]], 2),
    (from_coefficients, [e("x", "x"), (), e("1", "x")]), (coefficients_of, e("x*y + 1")),
    (element_at, e("x*y + t"), [(1, 1), (2, 1), (3, 1)]), (Tower, *parsed(["x: x**2 - 2", "y: y**2 - x"])),
    (System, *parsed(["x: x**2 - t", "y: y**2 - x"]), True), (system_tower, ROOTS), (has_point, TWO, [(1, 1)]),
    (tower_set_t, tower("x: x - t"), (1, 1)), (told_reduction, TWO, e("x**3", "x")),
    (reduction_fault, TWO, e("x**3", "x"), e("2*x", "x"), [e("x", "x")]), (basis_of, TWO),
    (coordinates_of, TWO, e("x", "x")), (combined_element, TWO, [q("1"), q("t")]), (multiply_table, TWO, e("x", "x")),
    (trim_upper, TWO, UPPER), (upper_times, TWO, UPPER, UPPER), (upper_over, TWO, UPPER, UPPER),
    (upper_slope, TWO, UPPER), (common_divisors, PAIR, UPPER, [e("x", "x")]), (zero_parts, PAIR, e("x", "x")),
    (plain_uppers, PAIR, UPPER), (plain_towers, ROOTS), (carry_tower, PAIR, ZERO), (meet_towers, PAIR, UNIT),
    (parts_fault, PAIR, [ZERO, UNIT]), (zero_fault, PAIR, e("x", "x"), [ZERO], [UNIT]),
    (inverses, PAIR, e("x", "x")), (divisions, PAIR, e("1", "x"), e("x", "x")),
    (inverses_fault, PAIR, e("x", "x"), [ZERO], [[UNIT, e("1", "x")]]),
    (divided_fault, PAIR, UPPER, UPPER, [Divided(PAIR, UPPER, u("1"), ())]), (partner_lines, list(TOLD.lines)),
    (names_known, list(TOLD.lines)), (depth_of, list(TOLD.lines)), (Program, list(TOLD.lines)),
    (run_at, TOLD, ["x"], [(1, 1)]), (run_once, TOLD, PAIR), (run_system, TOLD, ROOTS.at_free((1, 1))),
    (partings_of, TOLD, PAIR), (outcome_at, [LOT], [(1, 1)]), (lots_by_answers, [LOT, LOT]), (lots_at, [LOT], (1, 1)),
    (lots_fault, TOLD, PAIR, [LOT]), (answer_rows, TOLD, ROOTS), (apart_towers, [PAIR, ZERO]),
    (less_towers, [PAIR], [ZERO]), (refine_towers, [ZERO, UNIT]), (counted_beginnings, [ZERO, UNIT]),
    (join_pieces, [Piece(ZERO, [()]), Piece(UNIT, [e("x", "x")])]), (form_of, ["x"], [PAIR, ZERO]),
    (form_of_lots, ["x"], [LOT]), (system_form, ROOTS), (form_over, system_form(ROOTS), 1),
    (form_meet, system_form(ROOTS), system_form(ROOTS)), (form_join, system_form(ROOTS), system_form(ROOTS)),
    (form_less, system_form(ROOTS), system_form(ROOTS)), (form_has, system_form(ROOTS), [(1, 1), (1, 1)]),
    (values_at, form_of(["x"], [PAIR]), [(1, 1)]), (form_fault, ["x"], [Piece(PAIR, [])]),
    (program_form, TOLD, ROOTS), (programs_alike, ROOTS, TOLD, OTHER), (apart_points, ROOTS, TOLD, OTHER),
    (apart_fault, ROOTS, TOLD, OTHER, Apart(TWO, "m", "n", [0])), (sure_ways, TOLD, ROOTS), (sure_tests, TOLD, ROOTS),
    (idle_lines, TOLD, ROOTS), (tests_counted, TOLD, ROOTS), (cut_sure_ways, TOLD, ROOTS), (drop_idle, TOLD, ROOTS),
    (shorten_program, TOLD, ROOTS), (sum_over, TWO, e("x", "x")), (full_equation, TWO, e("x", "x")),
    (least_equation, TWO, e("x", "x")), (value_table, TWO, e("x", "x")), (marks_counted, TOLD, ROOTS),
    (mark_values, TOLD, ROOTS, "n", 0), (mark_equation, TOLD, ROOTS, "n", 0), (taken_points, TOLD, ROOTS, "n", 0, 2),
    (Saying, TOLD, "m", ["some", ["just", 2]]), (ask_saying, ROOTS, Saying(TOLD, "n", ["all", "all"])),
    (kept_points, ROOTS, Saying(TOLD, "n", ["all"])), (FreeLot, "roots", p("t")), (free_run, TOLD, FREE),
    (free_outcome, free_run(TOLD, FREE), (1, 1), [(1, 1)]), (lot_of_t, FREE, Saying(TOLD, "n", ["all"])),
    (same_for_all, FREE, TOLD, OTHER), (count_lots, FREE, TOLD, "n"),
    (Reduction, (), [e("x", "x")]), (Divided, PAIR, UPPER, UPPER, UPPER),
    (Outcome, "m", [(1, 1)], [(0, 0, True)], [0]), (Lot, PAIR, "m", [()], [(0, 0, True)], [0]),
    (Parting, 0, e("x", "x"), PAIR, [ZERO], [UNIT]), (Piece, PAIR, [()]), (Form, ["x"], [Piece(PAIR, [()])]),
    (FreeRun, p("t"), [LOT], [LOT]))


def shown(thing):
    """Return what a thing of the package or of Python consists of, so that two of them can be compared."""
    if isinstance(thing, (list, tuple)):
        return [thing.__class__, [shown(part) for part in thing]]
    if thing.__class__.__module__.startswith("neverfactored"):
        return [thing.__class__, {name: shown(part) for name, part in vars(thing).items()}]
    return thing


def has_list(rows):
    """Return whether what is shown contains a list of its own."""
    if isinstance(rows, dict):
        return any(has_list(part) for part in rows.values())
    if not isinstance(rows, list):
        return False
    kind, parts = rows
    if isinstance(parts, dict):
        return has_list(parts)
    return kind is list or any(has_list(part) for part in parts)


def spoil(thing):
    """Change every list that was passed."""
    if isinstance(thing, (list, tuple)):
        for part in thing:
            spoil(part)
    if isinstance(thing, list):
        thing.append(None)


def modules():
    """Return the couples of a module's name and the module."""
    return [(name, importlib.import_module("neverfactored." + name)) for name in NAMES]


class PassingTest(Case):

    def test_nothing_that_is_passed_is_changed(self):
        for call, *args in CALLS:
            before = shown(args)
            call(*args)
            self.assertEqual(shown(args), before, call)

    def test_nothing_that_is_returned_hangs_on_what_is_passed(self):
        for call, *args in CALLS:
            args = [copy.deepcopy(thing) if isinstance(thing, (list, tuple)) else thing for thing in args]
            found = call(*args)
            before = shown(found)
            spoil(args)
            self.assertEqual(shown(found), before, call)

    def test_sequences_that_are_returned_are_tuples_within_too(self):
        for call, *args in CALLS:
            self.assertFalse(has_list(shown(call(*args))), call)

    def test_tuples_may_be_passed_as_well(self):
        for call, *args in CALLS:
            as_tuples = [tuple(thing) if isinstance(thing, list) else thing for thing in args]
            self.assertEqual(shown(call(*as_tuples)), shown(call(*args)), call)

    def test_the_same_each_time(self):
        for call, *args in CALLS:
            self.assertEqual(shown(call(*args)), shown(call(*args)), call)

    def test_notes_alone_are_changed(self):
        notes = Notes()
        run_system(TOLD, FREE, notes)
        self.assertNotEqual(notes.polys, ())
        kept = notes.polys
        run_system(TOLD, system("x: x**2 - 3"), notes)
        self.assertEqual(notes.polys, kept)


class ClassesTest(Case):

    def test_errors_are_straight_under_the_root(self):
        for name, thing in vars(errors).items():
            if inspect.isclass(thing) and name != "RootError":
                self.assertEqual(thing.__bases__, (errors.RootError,))
        self.assertEqual(errors.RootError.__bases__, (ValueError,))

    def test_errors_stand_in_one_file(self):
        for name, home in modules():
            for thing in vars(home).values():
                if inspect.isclass(thing) and issubclass(thing, Exception):
                    self.assertEqual(thing.__module__, "neverfactored.errors", name)

    def test_equality_is_true_or_false(self):
        pairs = [(call(*args), call(*args)) for call, *args in CALLS if inspect.isclass(call)]
        self.assertGreater(len(pairs), 12)
        for one, other in pairs:
            self.assertIs(one == other, True)
            self.assertIs(one != other, False)

    def test_judges_end_in_fault(self):
        judges = {name for _, home in modules() for name, thing in vars(home).items()
                  if name.endswith("_fault") and thing.__module__ == home.__name__}
        self.assertLessEqual({"reduction_fault", "divided_fault", "zero_fault", "parts_fault", "inverses_fault",
                              "lots_fault", "form_fault", "apart_fault"}, judges)


if __name__ == "__main__":
    unittest.main()
