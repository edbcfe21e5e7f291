"""[5.5], [5.9]: where a run was parted."""

import unittest

from neverfactored.element import element_at
from neverfactored.errors import HasFree, LackingLetter
from neverfactored.machine import run_once
from neverfactored.partings import Parting, partings_of
from neverfactored.plainruns import PlainGround, run_at
from neverfactored.reducing import reduced
from neverfactored.walking import Course, Walk, walk_on
from tests.support import Case, dice_of, e, points_of, program, some_program, split_tower, tower

EMPTY = tower()
TWO = tower("x: x**2 - 2")
PAIR = tower("x: x**2 - x")
ZERO, ONE = tower("x: x"), tower("x: x - 1")
SHAPES = ((2,), (4,), (2, 2), (3, 2), (1, 3), (2, 2, 2), (2, 1, 2))


class EventGround(PlainGround):
    """Reckons at one point and keeps each event, a couple of its line and its number."""

    def __init__(self, letters, numbers, walk):
        super().__init__(letters, numbers)
        self.walk = walk
        self.events = []

    def divide(self, one, other):
        self.events.append((self.walk.line, other))
        return super().divide(one, other)

    def is_nought(self, one):
        self.events.append((self.walk.line, one))
        return super().is_nought(one)


def events_at(told, letters, point):
    """Return the events of a plain run, in their order."""
    walk = Walk()
    ground = EventGround(letters, point, walk)
    walk_on(walk, Course(told.lines), ground)
    return ground.events


def first_unlike(rows):
    """Return the number of the first event that is 0 in some of the rows and not in others."""
    place = 0
    while len({row[place][1] == (0, 1) for row in rows}) == 1:
        place += 1
    return place


class PartingTest(Case):

    def test_keeps_what_it_is_given(self):
        found = Parting(3, e("x", "x"), PAIR, [ZERO], [ONE])
        self.assertEqual(vars(found),
                         {"line": 3, "element": e("x", "x"), "tower": PAIR, "zeros": (ZERO,), "others": (ONE,)})

    def test_equal(self):
        one = Parting(3, e("x", "x"), PAIR, (ZERO,), (ONE,))
        self.assertTrue(one == Parting(3, e("x", "x"), tower("x: x**2 - x"), [ZERO], [tower("x: x - 1")]))
        for other in (Parting(2, one.element, PAIR, (ZERO,), (ONE,)), Parting(3, (), PAIR, (ZERO,), (ONE,)),
                      Parting(3, one.element, TWO, (ZERO,), (ONE,)), Parting(3, one.element, PAIR, (ONE,), (ONE,)),
                      Parting(3, one.element, PAIR, (ZERO,), (ZERO, ONE))):
            self.assertFalse(one == other)


class PartingsTest(Case):

    def in_order(self, one, partings, lots):
        """Check that each parted tower comes from an earlier parting, and that what is left are the lots' towers."""
        left = [one]
        for parting in partings:
            self.assertIsInstance(parting, Parting)
            self.assertIn(parting.tower, left)
            left.remove(parting.tower)
            self.assertTrue(parting.zeros and parting.others)
            left.extend(parting.zeros + parting.others)
        self.assertEqual(sorted(part.equations for part in left), sorted(lot.tower.equations for lot in lots))
        self.assertEqual(len(lots), 1 + sum(len(row.zeros) + len(row.others) - 1 for row in partings))

    def right_parting(self, told, parting, points):
        """Check what a parting says, by the events of the plain runs."""
        tower_points = self.whole_points(parting.tower, points)
        self.same(reduced(parting.tower, parting.element), parting.element)
        self.are_parts(tower_points, parting.zeros + parting.others)
        letters = parting.tower.letters
        rows = [events_at(told, letters, point) for point in tower_points]
        place = first_unlike(rows)
        for point, row in zip(tower_points, rows):
            line, number = row[place]
            self.same(line, parting.line)
            self.same(element_at(parting.element, point), number)
            zeros = [point for part in parting.zeros for point in self.whole_points(part, tower_points)]
            self.assertEqual(point in zeros, number == (0, 1))

    def test_at_the_points(self):
        dice = dice_of(367)
        looked = 0
        for turn in range(240):
            one, roots = split_tower(dice, SHAPES[turn % len(SHAPES)])
            told = some_program(dice, one.letters)
            result = partings_of(told, one)
            self.assertIs(result.__class__, tuple)
            partings, lots = result
            self.assertEqual((partings.__class__, lots.__class__), (tuple, tuple))
            points = points_of(roots)
            self.in_order(one, partings, lots)
            for parting in partings:
                self.right_parting(told, parting, points)
                looked += 1
            self.are_parts(points, [lot.tower for lot in lots])
            for lot in lots:
                for point in self.whole_points(lot.tower, points):
                    found = run_at(told, one.letters, point)
                    self.assertEqual((lot.mark, lot.answers, lot.walked), (found.mark, found.answers, found.walked))
            if not partings:
                self.assertEqual([lot.tower for lot in lots], [one])
        self.assertGreater(looked, 40)

    def test_of_5_10(self):
        one = tower("x: x**2 - 1")
        partings, lots = partings_of(program("if x = 1", "stop a 5", "else", "stop b 1 / (x - 1)", "end"), one)
        self.assertEqual(partings, (Parting(0, e("x - 1", "x"), one, (ONE,), (tower("x: x + 1"),)),))
        self.assertEqual(sorted((lot.mark, lot.tower.equations, lot.outputs) for lot in lots),
                         [("a", ONE.equations, (e("5", "x"),)), ("b", tower("x: x + 1").equations, (e("-1/2", "x"),))])
        partings, lots = partings_of(program("stop a 1 / (x + 1)"), TWO)
        self.assertEqual((partings, [(lot.tower, lot.outputs) for lot in lots]), ((), [(TWO, (e("x - 1", "x"),))]))

    def test_nothing_parts(self):
        for one, told in ((TWO, program("if x = 3", "end", "stop m 1 / x")), (EMPTY, program("stop m 1 / 0")),
                          (PAIR, program("if x * x = x", "end", "stop m 1 / (x + 1)")), (TWO, program()),
                          (PAIR, program("let aa = 1 / (x * x - x)"))):
            partings, lots = partings_of(told, one)
            self.assertEqual((partings, [lot.tower for lot in lots]), ((), [one]))

    def test_at_divisions_tests_and_values(self):
        for told, line in ((program("let aa = 1", "let bb = aa / x"), 1), (program("let aa = 1", "stop m 1, 2 / x"), 1),
                           (program("if 2 = 1 / x", "end"), 0),
                           (program("for 2 times", "if 1 = 2 or x = 0", "end", "end"), 1)):
            partings, lots = partings_of(told, PAIR)
            self.assertEqual(partings, (Parting(line, e("x", "x"), PAIR, (ZERO,), (ONE,)),))
            self.assertEqual(len(lots), 2)

    def test_left_less_right(self):
        partings, _ = partings_of(program("if 0 != x", "end"), PAIR)
        self.same(partings[0].element, e("-x", "x"))
        partings, _ = partings_of(program("if x + 1 = 2 * x", "end"), PAIR)
        self.same(partings[0].element, e("1 - x", "x"))

    def test_the_order_of_reckoning(self):
        one = tower("x: x**3 - 3*x**2 + 2*x")
        for text, told in (("1 / x / (1 / (x - 1))", ("x", "x - 1")), ("1 / (x - 1) + 1 / x", ("x - 1", "x")),
                           ("(2 / (x - 2)) ** 0 * (3 / x)", ("x - 2", "x")), ("1 / (1 / x) / (x - 1)", ("x", "x - 1"))):
            partings, _ = partings_of(program("stop m " + text), one)
            self.assertEqual([reduced(parting.tower, e(word, "x")) == parting.element
                              for parting, word in zip(partings, told)], [True, True])
        partings, _ = partings_of(program("if 1 / x = 1 / (x - 1)", "end"), one)
        self.same([parting.element for parting in partings][0], e("x", "x"))

    def test_letters_and_the_free_letter(self):
        free = tower("x: x**2 - t")
        self.refused(LackingLetter, {"letter": "t"}, partings_of, program("stop m t"), free)
        self.refused(LackingLetter, {"letter": "t"}, partings_of, program("stop m t"), TWO)
        self.refused(LackingLetter, {"letter": "y"}, partings_of, program("stop m y + z"), free)
        self.refused(HasFree, {}, partings_of, program("stop m x"), free)
        self.refused(HasFree, {}, partings_of, program(), tower("x: x", "y: y - t"))
        named = tower("t: t**2 - t", "x: x**2 - t - 1")
        partings, lots = partings_of(program("if t = 0", "stop m x", "end"), named)
        self.assertEqual((len(partings), len(lots)), (1, 2))

    def test_the_lots_of_a_run(self):
        told = program("if x = 0", "stop m 1", "end", "stop n x")
        _, lots = partings_of(told, PAIR)
        self.assertEqual(sorted((lot.tower.equations, lot.mark, lot.outputs) for lot in lots),
                         sorted((lot.tower.equations, lot.mark, lot.outputs) for lot in run_once(told, PAIR)))


if __name__ == "__main__":
    unittest.main()
