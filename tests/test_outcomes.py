"""[5.7], [5.8], [5.9]: outcomes at points, lots by answers and at a value of t, judging of lots."""

import unittest

from neverfactored.divisors import zero_parts
from neverfactored.element import element_plus
from neverfactored.errors import HasFree, LackingLetter, NoPoint, Pole
from neverfactored.machine import Lot, run_once, run_system
from neverfactored.outcomes import lots_at, lots_by_answers, lots_fault, outcome_at
from neverfactored.plainruns import Outcome, run_at
from neverfactored.reducing import reduced
from tests.support import Case, dice_of, e, points_of, program, some_program, split_tower, system, tower, with_root

EMPTY = tower()
TWO = tower("x: x**2 - 2")
PAIR = tower("x: x**2 - x")
ZERO, ONE = tower("x: x"), tower("x: x - 1")
FREE = tower("x: x**2 - t")
SHAPES = ((2,), (4,), (2, 2), (3, 2), (1, 3), (2, 2, 2))


class OutcomeAtTest(Case):

    def test_at_known_points(self):
        dice = dice_of(373)
        for turn in range(60):
            one, roots = split_tower(dice, SHAPES[turn % len(SHAPES)])
            told = some_program(dice, one.letters)
            lots = run_once(told, one)
            for point in points_of(roots):
                found = outcome_at(lots, point)
                self.assertIsInstance(found, Outcome)
                self.assertTrue(found == run_at(told, one.letters, point))
                self.assertTrue(outcome_at(list(lots), list(point)) == found)

    def test_a_value(self):
        lots = [Lot(PAIR, "m", [e("3*x**2 - 1/2", "x"), e("x", "x")], [(0, 0, True)], [0, 1])]
        found = outcome_at(lots, [(1, 1)])
        self.assertEqual(vars(found), {"mark": "m", "outputs": ((5, 2), (1, 1)), "answers": ((0, 0, True),),
                                       "walked": (0, 1)})
        self.assertEqual(outcome_at([Lot(EMPTY, "m", [e("7", ())], (), (0,))], ()).outputs, ((7, 1),))

    def test_no_point(self):
        lots = run_once(program("stop m x"), PAIR)
        self.refused(NoPoint, {}, outcome_at, lots, ((2, 1),))
        self.refused(NoPoint, {}, outcome_at, lots, [(1, 2)])
        self.refused(NoPoint, {}, outcome_at, (), ((1, 1),))
        self.refused(NoPoint, {}, outcome_at, [], [])
        self.refused(NoPoint, {}, outcome_at, run_once(program("stop m"), TWO), ((1, 1),))

    def test_has_free_ahead_of_the_search(self):
        right = Lot(PAIR, "m", (), (), (0,))
        for wrong in (Lot(FREE, "m", (), (), (0,)), Lot(PAIR, "m", (e("t", "x"),), (), (0,)),
                      Lot(PAIR, "m", (e("x", "x"), e("(1)/(t)*x", "x")), (), (0,))):
            for lots in ((right, wrong), [wrong, right], [wrong]):
                self.refused(HasFree, {}, outcome_at, lots, ((1, 1),))
                self.refused(HasFree, {}, outcome_at, lots, ((9, 1),))

    def test_t_as_a_named_letter(self):
        lots = [Lot(tower("t: t - 2", "x: x**2 - x"), "m", (e("t*x", ("t", "x")),), (), (0,))]
        self.assertEqual(outcome_at(lots, ((2, 1), (1, 1))).outputs, ((2, 1),))


class ByAnswersTest(Case):

    def test_in_order(self):
        rows = [((0, 0, True),), (), ((0, 0, False), (1, 0, True)), ((0, 0, False),), ((0, 0, False), (0, 1, True)),
                ((1, 0, False),)]
        lots = [Lot(TWO, "m", (), answers, (0,)) for answers in rows]
        found = lots_by_answers(lots)
        self.assertEqual([answers for answers, _ in found],
                         [(), ((0, 0, False),), ((0, 0, False), (0, 1, True)), ((0, 0, False), (1, 0, True)),
                          ((0, 0, True),), ((1, 0, False),)])
        self.assertEqual([kept.__class__ for _, kept in found], [tuple] * 6)

    def test_lots_in_the_order_told(self):
        answers = ((0, 0, True),)
        lots = [Lot(TWO, mark, (), row, (0,)) for mark, row in (("c", answers), ("a", ()), ("b", answers), ("d", ()))]
        found = lots_by_answers(tuple(lots))
        self.assertEqual([(row, [lot.mark for lot in kept]) for row, kept in found],
                         [((), ["a", "d"]), (answers, ["c", "b"])])
        self.assertTrue(found[1][1][0] == lots[0])

    def test_none(self):
        self.assertEqual(lots_by_answers([]), ())
        self.assertEqual(lots_by_answers(()), ())


class LotsAtTest(Case):

    def test_t_is_set(self):
        lots = [Lot(FREE, "m", (e("t*x + (1)/(t - 1)", "x"),), ((0, 0, True),), (0, 1))]
        found = lots_at(lots, (3, 1))
        self.assertIs(found.__class__, tuple)
        self.assertTrue(found[0] == Lot(tower("x: x**2 - 3"), "m", (e("3*x + 1/2", "x"),), ((0, 0, True),), (0, 1)))
        self.assertEqual(lots_at((), (3, 1)), ())

    def test_pole(self):
        for lot in (Lot(FREE, "m", (e("(1)/(t - 1)", "x"),), (), (0,)),
                    Lot(tower("x: x - (1)/(t - 1)"), "m", (), (), (0,)),
                    Lot(TWO, "m", (e("x", "x"), e("(t)/(t**2 - 1)*x", "x")), (), (0,))):
            self.refused(Pole, {"at": (1, 1)}, lots_at, [Lot(TWO, "m", (), (), ()), lot], (1, 1))
            self.assertEqual(len(lots_at([lot], (2, 1))), 1)

    def test_lots_without_t(self):
        lots = run_system(program("if x = y", "stop m x + y", "end", "stop n"), system("x: x**2 - 2", "y: y**2 - 2"))
        self.assertTrue(lots_at(lots, (5, 7)) == lots)
        named = run_once(program("stop m t * x"), tower("t: t**2 - 2", "x: x - 1"))
        self.assertTrue(lots_at(list(named), (5, 7)) == named)


class LotsFaultTest(Case):

    def setUp(self):
        self.told = program("if x = 0", "stop a 5", "else", "stop b 1 / x, x", "end")
        self.right = [Lot(ZERO, "a", (e("5", "x"),), ((0, 0, True),), (0, 1)),
                      Lot(ONE, "b", (e("1", "x"), e("1", "x")), ((0, 0, False),), (0, 3))]

    def judged(self, lots, word):
        """Check the word for lots of the program."""
        self.assertEqual(lots_fault(self.told, PAIR, lots), word)
        self.assertEqual(lots_fault(self.told, PAIR, tuple(lots)), word)

    def changed(self, number, **changes):
        """Return the right lots with some attributes of one of them changed."""
        lots = list(self.right)
        kept = {**vars(lots[number]), **changes}
        lots[number] = Lot(kept["tower"], kept["mark"], kept["outputs"], kept["answers"], kept["walked"])
        return lots

    def test_right_lots(self):
        self.judged(self.right, None)
        self.judged(self.right[::-1], None)
        self.judged(self.changed(0, outputs=(e("x**3 - x + 5", "x"),)), None)
        self.judged(self.changed(1, outputs=(e("x", "x"), e("2*x**4 - 1", "x"))), None)

    def test_right_lots_that_part_the_points_otherwise(self):
        dice = dice_of(379)
        for turn in range(40):
            one, roots = split_tower(dice, SHAPES[turn % len(SHAPES)])
            told = some_program(dice, one.letters)
            lots = run_once(told, one)
            self.assertIsNone(lots_fault(told, one, lots))
            element = with_root(dice, one.letters, roots)
            finer = [Lot(part, lot.mark,
                         [element_plus(reduced(part, output), part.equations[-1]) for output in lot.outputs],
                         lot.answers, lot.walked)
                     for lot in lots for kind in zero_parts(lot.tower, element) for part in kind]
            self.assertIsNone(lots_fault(told, one, finer))

    def test_a_whole_lot_where_the_run_parts(self):
        # The answers are other ones at one of the points.
        told = program("if x = 0", "end", "stop m x")
        whole = Lot(PAIR, "m", (e("x", "x"),), ((0, 0, True),), (0, 2))
        self.assertEqual(lots_fault(told, PAIR, [whole]), "answers")
        told = program("let aa = x", "stop m aa")
        self.assertIsNone(lots_fault(told, PAIR, [Lot(ZERO, "m", ((),), (), (0, 1)),
                                                  Lot(ONE, "m", (e("1", "x"),), (), (0, 1))]))
        self.assertIsNone(lots_fault(program("stop m 1 / (x - 7)"), TWO,
                                     [Lot(TWO, "m", (e("-1/47*x - 7/47", "x"),), (), (0,))]))

    def test_words_of_parts_fault_come_first(self):
        wrong = "wrong"
        for towers, word in (([tower("y: y"), ONE], "letters"), ([tower("x: x**2"), ONE], "plain"),
                             ([tower("x: x - 2"), ONE], "beyond"), ([PAIR, ONE], "twice"), ([ONE], "lacking"),
                             ([], "lacking")):
            self.judged([Lot(part, wrong, (), (), ()) for part in towers], word)

    def test_mark(self):
        self.judged(self.changed(0, mark="b"), "mark")
        self.judged(self.changed(0, mark="broken", outputs=(), answers=(), walked=()), "mark")
        self.judged([Lot(PAIR, "a", (e("5", "x"),), ((0, 0, True),), (0, 1))], "mark")

    def test_values(self):
        self.judged(self.changed(0, outputs=(e("6", "x"),)), "values")
        self.judged(self.changed(0, outputs=()), "values")
        self.judged(self.changed(0, outputs=(e("5", "x"), e("5", "x"))), "values")
        self.judged(self.changed(0, outputs=(e("5 + t*x", "x"),)), "values")
        self.judged(self.changed(1, outputs=(e("1", "x"), e("1 - x", "x"))), "values")
        self.judged(self.changed(0, outputs=(e("6", "x"),), answers=(), walked=()), "values")

    def test_answers(self):
        self.judged(self.changed(0, answers=()), "answers")
        self.judged(self.changed(1, answers=((0, 0, True),)), "answers")
        self.judged(self.changed(1, answers=((0, 0, False), (0, 1, True)), walked=()), "answers")

    def test_walked(self):
        self.judged(self.changed(0, walked=(0,)), "walked")
        self.judged(self.changed(1, walked=(0, 1)), "walked")

    def test_lot_by_lot(self):
        lots = self.changed(0, walked=())
        lots[1] = self.changed(1, mark="a")[1]
        self.judged(lots, "walked")
        self.judged(lots[::-1], "mark")

    def test_letters_and_the_free_letter(self):
        lots = [Lot(FREE, "m", (), (), (0,))]
        self.refused(LackingLetter, {"letter": "t"}, lots_fault, program("stop m t"), FREE, lots)
        self.refused(LackingLetter, {"letter": "y"}, lots_fault, program("stop m y"), FREE, [])
        self.refused(LackingLetter, {"letter": "t"}, lots_fault, program("stop m t"), TWO, [])
        self.refused(HasFree, {}, lots_fault, program("stop m"), FREE, lots)
        self.refused(HasFree, {}, lots_fault, program("stop m"), FREE, [])
        named = tower("t: t**2 - t")
        self.assertIsNone(lots_fault(program("stop m t"), named, [Lot(named, "m", (e("t", ("t",)),), (), (0,))]))


if __name__ == "__main__":
    unittest.main()
