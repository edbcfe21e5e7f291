"""[5.1] to [5.4], and the one lot of [5.10]: programs run once for all points."""

import unittest

from neverfactored.element import element_at
from neverfactored.errors import LackingLetter
from neverfactored.machine import Lot, run_once, run_system
from neverfactored.notes import Notes
from neverfactored.outcomes import lots_at
from neverfactored.plainruns import run_at
from neverfactored.plaintowers import plain_towers
from neverfactored.ratios import ratio_minus, ratio_negative, ratio_over
from neverfactored.reducing import reduced
from tests.support import (
    Case, dice_of, e, good_samples, is_noted, noted, p, points_of, program, some_program, split_system, split_tower,
    system, tower)

EMPTY = tower()
TWO = tower("x: x**2 - 2")
PAIR = tower("x: x**2 - x")
SHAPES = ((2,), (4,), (2, 2), (3, 2), (1, 3), (2, 2, 2), (2, 1, 2))


def told_at(lot, point):
    """Return what a lot tells at a point: mark, values, answers and lines walked."""
    return (lot.mark, tuple(element_at(output, point) for output in lot.outputs), lot.answers, lot.walked)


def facts_of(outcome):
    """Return the same of an outcome."""
    return (outcome.mark, outcome.outputs, outcome.answers, outcome.walked)


def facts_of_lots(lots):
    """Return the attributes of lots in any order, their towers as equations."""
    return sorted((lot.tower.equations, lot.mark, lot.outputs, lot.answers, lot.walked) for lot in lots)


class LotTest(Case):

    def test_keeps_what_it_is_given(self):
        found = Lot(TWO, "m", [e("x", "x")], [(0, 0, True)], [0, 1])
        self.assertEqual(vars(found), {"tower": TWO, "mark": "m", "outputs": (e("x", "x"),),
                                       "answers": ((0, 0, True),), "walked": (0, 1)})
        self.assertEqual(vars(Lot(None, 1, (2,), (3,), (4,))),
                         {"tower": None, "mark": 1, "outputs": (2,), "answers": (3,), "walked": (4,)})

    def test_equal(self):
        one = Lot(TWO, "m", (e("x", "x"),), ((0, 0, True),), (0, 1))
        self.assertTrue(one == Lot(tower("x: x**2 - 2"), "m", [e("x", "x")], [(0, 0, True)], [0, 1]))
        for other in (Lot(PAIR, "m", one.outputs, one.answers, one.walked),
                      Lot(TWO, "n", one.outputs, one.answers, one.walked), Lot(TWO, "m", (), one.answers, one.walked),
                      Lot(TWO, "m", one.outputs, (), one.walked), Lot(TWO, "m", one.outputs, one.answers, (0,))):
            self.assertFalse(one == other)


class RunCase(Case):

    def right_lots(self, told, letters, points, lots, more=((), ())):
        """Check lots at points that are ratios; more are letters and numbers that are the same at all of them."""
        self.assertIsInstance(lots, tuple)
        self.are_parts(points, [lot.tower for lot in lots])
        for lot in lots:
            self.assertIsInstance(lot, Lot)
            for output in lot.outputs:
                self.same(reduced(lot.tower, output), output)
            for point in self.whole_points(lot.tower, points):
                outcome = run_at(told, tuple(letters) + more[0], point + more[1])
                self.assertEqual(told_at(lot, point), facts_of(outcome))


class RunOnceTest(RunCase):

    def test_at_the_points(self):
        dice = dice_of(347)
        parted = 0
        for turn in range(150):
            one, roots = split_tower(dice, SHAPES[turn % len(SHAPES)])
            told = some_program(dice, one.letters)
            lots = run_once(told, one)
            points = points_of(roots)
            self.right_lots(told, one.letters, points, lots)
            outcomes = [run_at(told, one.letters, point) for point in points]
            if all(found.mark != "broken" and found.answers == outcomes[0].answers for found in outcomes):
                self.assertEqual([lot.tower for lot in lots], [one])
            parted += len(lots) > 1
        self.assertGreater(parted, 30)

    def test_nothing_parts(self):
        for one, lines, outputs in ((TWO, ("if x * x = 2", "stop m x ** 3", "end"), ("2*x",)),
                                    (TWO, ("if x = 1", "end", "stop m 1 / (x + 1)"), ("x - 1",)),
                                    (PAIR, ("if x ** 2 = x and x != 2", "stop m 1 / (x + 1), x", "end"),
                                     ("1 - 1/2*x", "x")),
                                    (PAIR, ("let aa = x ** 4 - x", "stop m aa, 1 / (2 * x - 1)"), ("0", "2*x - 1")),
                                    (TWO, ("stop m",), ())):
            lots = run_once(program(*lines), one)
            self.assertEqual([(lot.tower, lot.mark) for lot in lots], [(one, "m")])
            self.same(lots[0].outputs, tuple(e(text, "x") for text in outputs))

    def test_nothing_parts_though_first_coefficients_are_0(self):
        one = tower("x: x**2 - x", "y: y**2 - 3*y + 2")
        lots = run_once(program("if x * y + x = y", "stop n", "end", "stop m 1 / (x * y + 1)"), one)
        self.assertEqual([(lot.tower, lot.mark) for lot in lots], [(one, "m")])

    def test_broken_at_all_points(self):
        lots = run_once(program("let aa = 1", "if x = 5 or 1 / (x * x - 2) = 1", "end"), TWO)
        self.assertEqual(facts_of_lots(lots), [(TWO.equations, "broken", (), ((1, 0, False),), (0, 1))])

    def test_points_that_are_no_ratios(self):
        one = tower("x: x**2 - 2", "y: y**2 - 2")
        lots = run_once(program("if x = y", "stop s x + y", "end", "stop d x - y, 1 / (x - y)"), one)
        same, unlike = tower("x: x**2 - 2", "y: y - x"), tower("x: x**2 - 2", "y: y + x")
        self.assertEqual(facts_of_lots(lots), sorted([
            (same.equations, "s", (e("2*x"),), ((0, 0, True),), (0, 1)),
            (unlike.equations, "d", (e("2*x"), e("1/4*x")), ((0, 0, False),), (0, 3))]))

    def test_a_division_parts(self):
        lots = run_once(program("let aa = 1 / x", "stop m aa"), PAIR)
        self.assertEqual(facts_of_lots(lots), sorted([
            (tower("x: x").equations, "broken", (), (), (0,)),
            (tower("x: x - 1").equations, "m", (e("1", "x"),), (), (0, 1))]))

    def test_loops(self):
        one = tower("x: x**4 - 6*x**3 + 11*x**2 - 6*x")
        told = program("let aa = x", "for 6 times", "if aa = 0", "stop m x", "end", "let aa = aa - 1", "end")
        lots = run_once(told, one)
        self.right_lots(told, ("x",), [((number, 1),) for number in range(4)], lots)
        self.assertEqual(len(lots), 4)
        lots = run_once(program("for 6 times", "for 6 times", "if x = 1", "end", "end", "end"), TWO)
        self.assertEqual((len(lots), len(lots[0].answers), len(lots[0].walked)), (1, 36, 43))

    def test_no_letter(self):
        told = program("if 1 = 2", "end", "stop m 1 / 3")
        lots = run_once(told, EMPTY)
        self.assertEqual([(lot.tower, lot.mark, lot.outputs) for lot in lots], [(EMPTY, "m", (e("1/3", ()),))])
        self.assertEqual([(lot.tower, lot.mark) for lot in run_once(program(), EMPTY)], [(EMPTY, "end")])
        self.assertEqual([lot.mark for lot in run_once(program("stop m 1 / 0"), EMPTY)], ["broken"])

    def test_letters_of_degree_1(self):
        lots = run_once(program("if x = 3", "stop m x * y", "end"), tower("x: x - 3", "y: y - 2"))
        self.assertEqual([(lot.mark, lot.outputs) for lot in lots], [("m", (e("6"),))])

    def test_of_5_10(self):
        lots = run_once(program("stop a 1 / (x + 1)"), TWO)
        self.assertEqual(facts_of_lots(lots), [(TWO.equations, "a", (e("x - 1", "x"),), (), (0,))])
        one, other = tower("x: x - 1"), tower("x: x + 1")
        lots = run_once(program("if x = 1", "stop a 5", "else", "stop b 1 / (x - 1)", "end"), tower("x: x**2 - 1"))
        self.assertEqual(facts_of_lots(lots), sorted([
            (one.equations, "a", (e("5", "x"),), ((0, 0, True),), (0, 1)),
            (other.equations, "b", (e("-1/2", "x"),), ((0, 0, False),), (0, 3))]))


class RunSystemTest(RunCase):

    def test_at_the_points_with_double_roots(self):
        dice = dice_of(349)
        for turn in range(60):
            one, roots = split_system(dice, SHAPES[turn % len(SHAPES)])
            told = some_program(dice, one.letters)
            points = sorted(set(points_of(roots)))
            self.right_lots(told, one.letters, points, run_system(told, one))

    def test_one_lot_for_each_plain_tower_where_nothing_parts(self):
        one = system("x: x**2 - x", "y: y**2 - x")
        lots = run_system(program("stop m x + y"), one)
        self.assertEqual(sorted(lot.tower.equations for lot in lots),
                         sorted(part.equations for part in plain_towers(one)))
        lots = run_system(program("stop m x + y"), system("x: x**4 - 4*x**2 + 4", "y: y**2 - x"))
        self.assertEqual([(lot.tower, lot.outputs) for lot in lots],
                         [(tower("x: x**2 - 2", "y: y**2 - x"), (e("y + x"),))])

    def test_a_special_system(self):
        one = system("t: t**2 - t", "x: x**2 - t", special=True)
        told = program("if x = t", "stop m t", "end", "stop n x * t")
        lots = run_system(told, one)
        self.right_lots(told, ("t", "x"), [((0, 1), (0, 1)), ((1, 1), (1, 1)), ((1, 1), (-1, 1))], lots)
        self.assertEqual(run_system(program("stop m"), one.at_free((5, 1)))[0].mark, "m")


class LettersTest(RunCase):

    def test_lacking(self):
        told = program("stop m", "stop n y + t + a1")
        for one, free, letter in ((tower("x: x"), False, "a1"), (tower("a1: a1"), False, "t"),
                                  (tower("a1: a1"), True, "y"),
                                  (tower("a1: a1", "y: y"), False, "t"), (EMPTY, True, "a1"),
                                  (tower("t: t", "a1: a1"), True, "y"), (tower("t: t", "y: y"), False, "a1")):
            self.refused(LackingLetter, {"letter": letter}, run_once, told, one, None, free)
            self.refused(LackingLetter, {"letter": letter}, run_once, told, one, Notes(), free=free)
        for one, letter in ((system("x: x"), "a1"), (system("a1: a1", "y: y"), "t"), (system("a1: a1", free=True), "y"),
                            (system("a1: a1", "x: x"), "t"), (system("t: t", "a1: a1", special=True), "y")):
            self.refused(LackingLetter, {"letter": letter}, run_system, told, one)
            self.refused(LackingLetter, {"letter": letter}, run_system, told, one, Notes())

    def test_t_as_the_free_letter(self):
        self.same(run_once(program("stop m t"), TWO, free=True)[0].outputs, (e("t", "x"),))
        told = program("stop m t * x, 1 / t")
        lots = run_once(told, TWO, free=True)
        self.assertEqual([(lot.tower, lot.outputs) for lot in lots], [(TWO, (e("t*x", "x"), e("(1)/(t)", "x")))])
        one = tower("x: x**2 - t")
        self.assertEqual(run_once(told, one, None, True)[0].outputs, (e("t*x", "x"), e("(1)/(t)", "x")))
        self.assertEqual(run_system(told, system("x: x**2 - 2", free=True))[0].outputs[0], e("t*x", "x"))
        self.assertEqual(run_once(program("stop m x * x"), one)[0].outputs, (e("t", "x"),))

    def test_t_as_a_named_letter(self):
        one = tower("t: t**2 - 3", "x: x**2 - t")
        for free in (False, True):
            lots = run_once(program("stop m t * t, x ** 4"), one, None, free)
            self.assertEqual([(lot.tower, lot.outputs) for lot in lots],
                             [(one, (e("3", ("t", "x")), e("3", ("t", "x"))))])

    def test_0_is_the_quotient_0(self):
        told = program("if t = 0 or x * x - t != 0 or x = 1 or t = 1 / 2", "stop m", "end", "stop n")
        lots = run_once(told, tower("x: x**2 - t"), None, True)
        self.assertEqual([(lot.tower, lot.mark) for lot in lots], [(tower("x: x**2 - t"), "n")])


class NotesTest(RunCase):

    def test_bottoms_of_the_tower_are_taken_also_if_nothing_is_asked(self):
        one = tower("x: x**2 - (1)/(t - 3)")
        for told in (program(), program("stop m x")):
            notes = Notes()
            self.assertEqual(len(run_once(told, one, notes, True)), 1)
            self.same(notes.joined, p("t - 3"))

    def test_what_is_taken_as_not_0(self):
        _, notes = noted(run_system, program("if x = 1", "end", "stop m 1 / (t - 5), 1 / x"),
                         system("x: x**2 - t", free=True))
        for text in ("t", "t - 1", "t - 5"):
            self.assertTrue(is_noted(notes, p(text)))

    def test_without_t_nothing_is_kept(self):
        notes = Notes()
        run_once(program("if x = 1", "end", "stop m 1 / (x + 1 / 3)"), TWO, notes, True)
        run_system(program("if x = 1", "stop m 1 / (x + 2)", "end"), system("x: x**2 - x", "y: y**2 - 1/2*x"), notes)
        self.same(notes.polys, ())

    def test_towers_with_t_set(self):
        dice = dice_of(353)
        looked = 0
        for turn in range(40):
            one, roots = split_tower(dice, ((2,), (3,), (2, 2), (1, 2))[turn % 4], with_t=True)
            told = some_program(dice, one.letters + ("t",))
            notes = Notes()
            lots = run_once(told, one, notes, True)
            for number in good_samples(notes, roots):
                self.right_lots(told, one.letters, points_of(roots, number), lots_at(lots, number), (("t",), (number,)))
                looked += 1
        self.assertGreater(looked, 300)

    def test_systems_with_t_set(self):
        dice = dice_of(359)
        looked = 0
        for turn in range(40):
            one, roots = split_system(dice, ((2,), (3,), (2, 2), (1, 2))[turn % 4], with_t=True)
            told = some_program(dice, one.letters + ("t",))
            lots, notes = noted(run_system, told, one)
            for number in good_samples(notes):
                points = sorted(set(points_of(roots, number)))
                self.right_lots(told, one.letters, points, lots_at(lots, number), (("t",), (number,)))
                looked += 1
        self.assertGreater(looked, 300)

    def test_towers_with_bottoms(self):
        one = tower("x: x**2 - (4)/(t**2)", "y: y - (1)/(t - 1)*x")
        told = program("if x * t = 2", "stop m y", "end", "stop n 1 / (y + x)")
        lots, notes = noted(lambda notes: run_once(told, one, notes, True))
        good = good_samples(notes)
        self.assertGreater(len(good), 12)
        for number in good:
            self.assertNotIn(number, ((0, 1), (1, 1)))
            first = ratio_over((2, 1), number)
            second = ratio_over(first, ratio_minus(number, (1, 1)))
            points = [(first, second), (ratio_negative(first), ratio_negative(second))]
            self.right_lots(told, one.letters, points, lots_at(lots, number), (("t",), (number,)))


if __name__ == "__main__":
    unittest.main()
