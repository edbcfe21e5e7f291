"""[9.6], [9.11]: a program run for all values of the free letter."""

import unittest

from neverfactored.errors import LackingLetter, NoFree, NoPoint
from neverfactored.freeruns import FreeRun, coprime_polys, free_outcome, free_run
from neverfactored.machine import Lot
from neverfactored.outcomes import lots_at, lots_fault
from neverfactored.parting import is_within, meet_towers
from neverfactored.plainruns import Outcome, run_at
from neverfactored.plaintowers import is_plain, plain_towers
from neverfactored.polys import poly_common, poly_degree, poly_plain, poly_times
from neverfactored.programs import Program
from neverfactored.refining import apart_towers
from tests.support import (
    SAMPLES, Case, dice_of, e, p, points_of, program, ratio_roots, some_free_system, some_program, split_system,
    system, tower, with_number)

ONE = ((1, 1),)
FREE = system("x: x**2 - t", free=True)
TOLD = program("if x = 1", "stop aa x", "end", "stop bb 1 / x, t")
SHAPES = ((1,), (2,), (3,), (2, 2), (1, 2), (2, 1), (4,))


class FreeRunTest(Case):

    def test_keeps_what_it_is_given(self):
        lot = Lot(tower("x: x"), "m", (), (), (0,))
        run = FreeRun(p("t"), [lot], [])
        self.assertEqual(vars(run), {"poly": p("t"), "general": (lot,), "special": ()})
        self.assertEqual(vars(FreeRun(list(p("t")), (), [lot])), {"poly": p("t"), "general": (), "special": (lot,)})

    def test_equal(self):
        lot = Lot(tower("x: x"), "m", (), (), (0,))
        one = FreeRun(p("t"), [lot], [])
        self.assertTrue(one == FreeRun(p("t"), (Lot(tower("x: x"), "m", [], [], [0]),), ()))
        for other in (FreeRun(p("t - 1"), [lot], []), FreeRun(p("t"), [], []), FreeRun(p("t"), [lot], [lot])):
            self.assertFalse(one == other)


class RunTest(Case):

    def right_run(self, told, one, run):
        """Check what is said of each free run, but for the lots at the values of t."""
        self.assertIsInstance(run, FreeRun)
        self.assertEqual((run.general.__class__, run.special.__class__), (tuple, tuple))
        self.same(run.poly, poly_plain(run.poly))
        letters = ("t",) + one.letters
        towers = [lot.tower for lot in run.special]
        self.assertTrue(all(part.letters == letters and not part.has_free and is_plain(part) for part in towers))
        for place, part in enumerate(towers):
            self.assertTrue(all(meet_towers(part, other)[0] == () for other in towers[:place]))
        if run.poly == ONE:
            self.assertEqual(run.special, ())
            return
        whole = plain_towers(one.special(run.poly))
        self.assertEqual(sum(part.count for part in towers), sum(part.count for part in whole))
        special = one.special(run.poly)
        self.assertTrue(all(is_within(part, special) for part in towers))
        for lot in run.special:
            self.assertIsNone(lots_fault(told, lot.tower, [lot]))

    def test_at_ratios(self):
        dice = dice_of(643)
        looked, roots = 0, 0
        for turn in range(70):
            one = some_free_system(dice, SHAPES[turn % len(SHAPES)])
            told = some_program(dice, one.letters + ("t",))
            run = free_run(told, one)
            self.right_run(told, one, run)
            for number in SAMPLES:
                if number not in ratio_roots(run.poly):
                    self.right_at(told, one.at_free(number), lots_at(run.general, number), number)
                    looked += 1
            roots += poly_degree(run.poly) - len(ratio_roots(run.poly))
        self.assertGreater(looked, 500)
        # Most special lots stand over roots that are no ratios.
        self.assertGreater(roots, 30)

    def right_at(self, told, one, lots, number):
        """Check that lots are right ones of a system in which t is a number."""
        plain = Program(with_number(told.lines, number))
        whole = plain_towers(one)
        if len(whole) == 1:
            self.assertIsNone(lots_fault(plain, whole[0], lots))
        else:
            self.assertEqual(sum(lot.tower.count for lot in lots), sum(part.count for part in whole))
            for lot in lots:
                self.assertTrue(is_plain(lot.tower) and is_within(lot.tower, one))
                self.assertIsNone(lots_fault(plain, lot.tower, [lot]))
            self.assertEqual(len(apart_towers([lot.tower for lot in lots])), len(lots))

    def test_outcomes_at_points_that_are_ratios(self):
        dice = dice_of(647)
        general, special = 0, 0
        for turn in range(40):
            one, roots = split_system(dice, ((2,), (3,), (2, 2), (1, 2))[turn % 4], with_t=True)
            told = some_program(dice, one.letters + ("t",))
            run = free_run(told, one)
            self.right_run(told, one, run)
            for number in SAMPLES:
                for point in sorted(set(points_of(roots, number))):
                    right = run_at(told, ("t",) + one.letters, (number,) + point)
                    self.assertTrue(free_outcome(run, number, point) == right)
                    if number in ratio_roots(run.poly):
                        special += 1
                    else:
                        general += 1
        self.assertGreater(general, 800)
        self.assertGreater(special, 80)

    def test_followed_by_hand(self):
        run = free_run(TOLD, FREE)
        self.right_run(TOLD, FREE, run)
        self.assertTrue(set(ratio_roots(run.poly)) >= {(0, 1), (1, 1)})
        self.assertEqual([(lot.tower, lot.mark) for lot in run.general], [(tower("x: x**2 - t"), "bb")])
        self.assertEqual(run.general[0].outputs, (e("(1)/(t)*x", "x"), e("t", "x")))
        for number, point, mark, outputs in (
                ((4, 1), (2, 1), "bb", ((1, 2), (4, 1))), ((4, 1), (-2, 1), "bb", ((-1, 2), (4, 1))),
                ((1, 1), (1, 1), "aa", ((1, 1),)), ((1, 1), (-1, 1), "bb", ((-1, 1), (1, 1))),
                ((0, 1), (0, 1), "broken", ()), ((9, 4), (3, 2), "bb", ((2, 3), (9, 4)))):
            found = free_outcome(run, number, [point])
            self.assertIsInstance(found, Outcome)
            self.assertEqual((found.mark, found.outputs), (mark, outputs))

    def test_nothing_is_taken_as_not_0(self):
        one = system("x: x - t", "y: y - x", free=True)
        run = free_run(program("stop m x + y, t"), one)
        self.assertTrue(run == FreeRun(ONE, [Lot(tower("x: x - t", "y: y - t"), "m", (e("2*t"), e("t")), (), (0,))], ()))
        self.assertEqual(free_outcome(run, (5, 2), ((5, 2), (5, 2))).outputs, ((5, 1), (5, 2)))

    def test_t_stands_in_the_program_alone_or_nowhere(self):
        one = system("x: x**2 - 2", free=True)
        run = free_run(program("if t * t = 2", "if x = t", "stop m", "end", "end", "stop n"), one)
        self.assertTrue(poly_common(run.poly, p("t**2 - 2")) == p("t**2 - 2"))
        self.assertEqual(sorted((lot.mark, lot.tower.count) for lot in run.special
                                if lot.tower.over(1) == tower("t: t**2 - 2")), [("m", 2), ("n", 2)])
        run = free_run(program("stop m x"), one)
        self.assertTrue(run == FreeRun(ONE, [Lot(tower("x: x**2 - 2"), "m", [e("x", "x")], (), (0,))], ()))

    def test_of_a_special_lot_exactly_if_the_number_is_a_root(self):
        general = [Lot(tower("x: x - t"), "general", (), (), ())]
        special = [Lot(tower("t: t - 1", "x: x - 1"), "special", (e("t*x", "tx"),), (), ())]
        run = FreeRun(p("t - 1"), general, special)
        self.assertEqual(free_outcome(run, (1, 1), ((1, 1),)).mark, "special")
        self.assertEqual(free_outcome(run, (2, 1), [(2, 1)]).mark, "general")
        self.refused(NoPoint, {}, free_outcome, FreeRun(p("t - 1"), general, ()), (1, 1), ((1, 1),))
        self.assertEqual(free_outcome(FreeRun(ONE, general, special), (1, 1), ((1, 1),)).mark, "general")

    def test_no_point(self):
        run = free_run(TOLD, FREE)
        for number, point in (((4, 1), (3, 1)), ((1, 1), (2, 1)), ((0, 1), (1, 1)), ((2, 1), (1, 1))):
            self.refused(NoPoint, {}, free_outcome, run, number, (point,))
            self.refused(NoPoint, {}, free_outcome, run, number, [point])

    def test_errors(self):
        for one in (system("x: x**2 - 2"), FREE.special(p("t - 2")), FREE.at_free((2, 1))):
            self.refused(NoFree, {}, free_run, program("stop m y"), one)
            self.refused(NoFree, {}, free_run, program("stop m x"), one)
        self.refused(LackingLetter, {"letter": "y"}, free_run, program("stop m t + z + y"), FREE)
        self.refused(LackingLetter, {"letter": "t1"}, free_run, program("for 0 times", "stop m t1", "end"), FREE)


class CoprimeTest(Case):

    def test_coprime_polys(self):
        dice = dice_of(653)
        roots = [p("t"), p("t - 1"), p("t + 3"), p("t**2 - 2"), p("t**2 - 3")]
        for _ in range(60):
            polys = []
            for _ in range(dice.randint(0, 4)):
                poly = ONE
                for factor in dice.sample(roots, dice.randint(1, 4)):
                    poly = poly_times(poly, factor)
                polys.append(poly)
            found = coprime_polys(polys)
            product = ONE
            for place, poly in enumerate(found):
                self.assertGreater(poly_degree(poly), 0)
                self.assertTrue(all(poly_common(poly, other) == ONE for other in found[:place]))
                product = poly_times(product, poly)
            whole = ONE
            for poly in polys:
                whole = poly_times(whole, poly)
            self.same(product, poly_plain(whole))


if __name__ == "__main__":
    unittest.main()
