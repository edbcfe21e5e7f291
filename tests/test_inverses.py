"""[3.3], [3.6]: inverses, divisions, and judging of these and of common divisors."""

import unittest

from neverfactored.divisors import Divided, common_divisors, zero_parts
from neverfactored.element import element_at, element_set_t
from neverfactored.inverses import divided_fault, divisions, inverses, inverses_fault
from neverfactored.notes import Notes
from neverfactored.ratios import ratio_times
from neverfactored.reducing import reduced, tower_times
from neverfactored.towers import tower_set_t
from tests.support import (
    Case, dice_of, e, good_samples, is_noted, noted, p, points_of, some_element, split_tower, tower, u, with_root)

EMPTY = tower()
TWO = tower("x: x**2 - 2")
PAIR = tower("x: x**2 - x")
ZERO, ONE = tower("x: x"), tower("x: x - 1")
SHAPES = ((2,), (4,), (1,), (2, 2), (3, 2), (2, 2, 2), (2, 1, 2))


class InversesTest(Case):

    def test_followed_by_hand(self):
        self.assertEqual(inverses(TWO, e("x + 1", "x")), ((), ((TWO, e("x - 1", "x")),)))
        self.assertEqual(inverses(TWO, e("x**3", "x")), ((), ((TWO, e("1/4*x", "x")),)))
        self.assertEqual(inverses(PAIR, e("x", "x")), ((ZERO,), ((ONE, e("1", "x")),)))
        self.assertEqual(inverses(PAIR, e("x**2 - x", "x")), ((PAIR,), ()))
        self.assertEqual(inverses(EMPTY, ()), ((EMPTY,), ()))
        self.assertEqual(inverses(EMPTY, e("3/2", ())), ((), ((EMPTY, e("2/3", ())),)))
        one = tower("x: x**2 - t")
        self.assertEqual(inverses(one, e("x", "x")), ((), ((one, e("(1)/(t)*x", "x")),)))

    def test_exactly_one_couple_where_nothing_is_0(self):
        # The points would be parted on the way: the first coefficients are 0 at some of them.
        one = tower("x: x**2 - x", "y: y**2 - 3*y + 2")
        for text in ("x*y - y + x", "x*y + 1", "x*y**2 + y", "5", "y"):
            zeros, found = inverses(one, e(text))
            self.assertEqual((zeros, [part for part, _ in found]), ((), [one]))
            self.same(tower_times(one, found[0][1], e(text)), e("1"))
            self.same(reduced(one, found[0][1]), found[0][1])

    def test_at_the_points(self):
        dice = dice_of(277)
        some = 0
        for turn in range(80):
            one, roots = split_tower(dice, SHAPES[turn % len(SHAPES)])
            many = len(one.letters)
            element = some_element(dice, many, terms=3, with_t=False)
            if turn % 2 == 0:
                element = with_root(dice, one.letters, roots)
            top = some_element(dice, many, terms=3, with_t=False)
            zeros, found = inverses(one, element)
            self.assertEqual((zeros, tuple(part for part, _ in found)), zero_parts(one, element))
            self.assertIsNone(inverses_fault(one, element, zeros, found))
            over, quotients = divisions(one, top, element)
            self.assertEqual((over, [part for part, _ in quotients]), (zeros, [part for part, _ in found]))
            points = points_of(roots)
            self.are_parts(points, zeros + tuple(part for part, _ in found))
            for part, inverse in found:
                self.same(reduced(part, inverse), inverse)
                for point in self.whole_points(part, points):
                    self.same(ratio_times(element_at(inverse, point), element_at(element, point)), (1, 1))
            for part, quotient in quotients:
                self.same(reduced(part, quotient), quotient)
                for point in self.whole_points(part, points):
                    self.same(ratio_times(element_at(quotient, point), element_at(element, point)),
                              element_at(top, point))
            some += bool(zeros and found)
        self.assertGreater(some, 15)

    def test_points_that_are_no_ratios(self):
        one = tower("x: x**2 - 2", "y: y**3 - x*y + 1")
        for text in ("y", "x*y + 1", "y**2 + x + 3", "x - y"):
            zeros, found = inverses(one, e(text))
            self.assertEqual((zeros, len(found), found[0][0]), ((), 1, one))
            self.same(tower_times(one, found[0][1], e(text)), e("1"))

    def test_with_t(self):
        dice = dice_of(281)
        looked = 0
        for turn in range(24):
            one, roots = split_tower(dice, ((2,), (3,), (2, 2), (1, 2))[turn % 4], with_t=True)
            many = len(one.letters)
            element = some_element(dice, many, terms=2, power=1)
            if turn % 2 == 0:
                element = with_root(dice, one.letters, roots)
            top = some_element(dice, many, terms=2, power=1)
            (zeros, found), notes = noted(inverses, one, element)
            (_, quotients), others = noted(divisions, one, top, element)
            for number in good_samples(notes, roots):
                at = [(tower_set_t(part, number), element_set_t(inverse, number)) for part, inverse in found]
                self.are_parts(points_of(roots, number),
                               [tower_set_t(part, number) for part in zeros] + [part for part, _ in at])
                low = element_set_t(element, number)
                for part in zeros:
                    self.same(reduced(tower_set_t(part, number), low), ())
                for part, inverse in at:
                    self.same(tower_times(part, inverse, low), reduced(part, e("1", one.letters)))
                looked += 1
            for number in good_samples(others, roots):
                for part, quotient in quotients:
                    at = tower_set_t(part, number)
                    self.same(tower_times(at, element_set_t(quotient, number), element_set_t(element, number)),
                              reduced(at, element_set_t(top, number)))
        self.assertGreater(looked, 120)

    def test_what_is_taken(self):
        notes = Notes()
        inverses(TWO, e("x + t", "x"), notes)
        self.same(notes.joined, p("t**2 - 2"))
        divisions(TWO, e("(1)/(t - 8)*x", "x"), e("x", "x"), notes)
        self.same(notes.polys, (p("t**2 - 2"), p("t - 8")))
        divisions(TWO, e("(1)/(t + 8)", "x"), (), notes)
        self.assertTrue(is_noted(notes, p("t + 8")))
        notes = Notes()
        inverses(TWO, e("x + 1/3", "x"), notes)
        divisions(PAIR, e("x", "x"), e("x", "x"), notes)
        self.same(notes.polys, ())


class DivisionsTest(Case):

    def test_followed_by_hand(self):
        self.assertEqual(divisions(TWO, e("x", "x"), e("x + 1", "x")), ((), ((TWO, e("2 - x", "x")),)))
        self.assertEqual(divisions(TWO, (), e("x + 1", "x")), ((), ((TWO, ()),)))
        self.assertEqual(divisions(TWO, e("x**2 - 2", "x"), e("x + 1", "x")), ((), ((TWO, ()),)))
        self.assertEqual(divisions(TWO, e("x**3", "x"), e("x**5", "x")), ((), ((TWO, e("1/2", "x")),)))
        self.assertEqual(divisions(EMPTY, e("1", ()), e("3", ())), ((), ((EMPTY, e("1/3", ())),)))

    def test_where_the_bottom_is_0_the_top_does_not_matter(self):
        for top in ("x", "0", "1", "x + 5"):
            zeros, found = divisions(PAIR, e(top, "x"), e("x", "x"))
            self.assertEqual((zeros, [part for part, _ in found]), ((ZERO,), [ONE]))
            self.same(found[0][1], reduced(ONE, e(top, "x")))
            self.assertEqual(divisions(PAIR, e(top, "x"), e("x**2 - x", "x")), ((PAIR,), ()))
            self.assertEqual(divisions(EMPTY, (), ()), ((EMPTY,), ()))


class InversesFaultTest(Case):

    def test_right(self):
        self.assertIsNone(inverses_fault(PAIR, e("x", "x"), [ZERO], [(ONE, e("1", "x"))]))
        self.assertIsNone(inverses_fault(PAIR, e("x", "x"), (ZERO,), [[ONE, e("x**4", "x")]]))
        self.assertIsNone(inverses_fault(PAIR, e("2*x - 1", "x"), (), [(ZERO, e("-1", "x")), (ONE, e("1", "x"))]))
        self.assertIsNone(inverses_fault(PAIR, (), [ZERO, ONE], ()))

    def test_words_of_parts_fault_come_first(self):
        element, one = e("x", "x"), e("1", "x")
        self.assertEqual(inverses_fault(PAIR, element, [tower("y: y")], [(ONE, ())]), "letters")
        self.assertEqual(inverses_fault(PAIR, element, [ONE], [(tower("x: x**2"), ())]), "plain")
        self.assertEqual(inverses_fault(PAIR, element, [ONE], [(tower("x: x - 2"), ())]), "beyond")
        self.assertEqual(inverses_fault(PAIR, element, [ZERO, ONE], [(ONE, one)]), "twice")
        self.assertEqual(inverses_fault(PAIR, element, [], [(ONE, one)]), "lacking")
        self.assertEqual(inverses_fault(PAIR, element, [], []), "lacking")

    def test_zero_ahead_of_inverse(self):
        self.assertEqual(inverses_fault(PAIR, e("x", "x"), [ONE], [(ZERO, e("1", "x"))]), "zero")
        self.assertEqual(inverses_fault(TWO, e("x", "x"), [TWO], []), "zero")
        self.assertEqual(inverses_fault(PAIR, e("x", "x"), [ZERO], [(ONE, e("2", "x"))]), "inverse")
        self.assertEqual(inverses_fault(PAIR, e("x", "x"), [], [(PAIR, e("1", "x"))]), "inverse")
        self.assertEqual(inverses_fault(PAIR, e("x", "x"), [], [(ONE, e("1", "x")), (ZERO, ())]), "inverse")
        self.assertEqual(inverses_fault(TWO, e("x", "x"), [], [(TWO, e("x", "x"))]), "inverse")

    def test_with_t(self):
        one = tower("x: x**2 - t")
        self.assertIsNone(inverses_fault(one, e("x", "x"), [], [(one, e("(1)/(t)*x", "x"))]))
        self.assertEqual(inverses_fault(one, e("x", "x"), [], [(one, e("x", "x"))]), "inverse")


class DividedFaultTest(Case):

    def test_right_results(self):
        left, right = u("0", "x"), u("0", "0", "1")
        self.assertIsNone(divided_fault(PAIR, left, right, common_divisors(PAIR, left, right)))
        told = [Divided(ZERO, u("0", "0", "1"), u("5", "7"), u("1")), Divided(ONE, u("0", "1"), u("1"), ())]
        self.assertIsNone(divided_fault(PAIR, left, right, told))
        self.assertIsNone(divided_fault(PAIR, left, right, tuple(told[::-1])))
        self.assertIsNone(divided_fault(PAIR, (), (), [Divided(PAIR, (), u("x", "3"), u("1", "1"))]))
        self.assertIsNone(divided_fault(TWO, u("-2", "0", "1"), u("-x", "1"),
                                        [Divided(TWO, u("-x", "x**2 - 1", "0"), u("x**2 - 2"), u("1"))]))
        self.assertIsNone(divided_fault(TWO, u("-2", "0", "1"), u("-x", "1"),
                                        [Divided(TWO, u("-x", "1"), u("1"), u("1 - x", "-1"))]))

    def test_words_of_parts_fault_come_first(self):
        left, right = u("x"), ()
        for towers, told in (([tower("y: y"), ONE], "letters"), ([tower("x: x**2"), ONE], "plain"),
                             ([tower("x: x - 2"), ONE], "beyond"), ([PAIR, ONE], "twice"), ([ONE], "lacking"),
                             ([], "lacking")):
            found = [Divided(part, u("2"), (), ()) for part in towers]
            self.assertEqual(divided_fault(PAIR, left, right, found), told)

    def test_monic(self):
        for divisor in (u("2"), u("1", "x"), u("x", "x", "0"), u("1", "2")):
            self.assertEqual(divided_fault(PAIR, u("1"), (), [Divided(PAIR, divisor, (), ())]), "monic")
        # x is 1 over the one part, but not over the other.
        told = [Divided(ONE, u("0", "x"), u("1"), ()), Divided(ZERO, u("2"), (), ())]
        self.assertEqual(divided_fault(PAIR, u("0", "1"), (), told), "monic")

    def test_divides(self):
        self.assertEqual(divided_fault(TWO, u("1"), u("x"), [Divided(TWO, (), (), ())]), "divides")
        self.assertEqual(divided_fault(TWO, u("0", "1"), u("x", "1"), [Divided(TWO, u("0", "1"), u("1"), ())]),
                         "divides")
        self.assertEqual(divided_fault(TWO, u("x", "1"), u("0", "1"), [Divided(TWO, u("0", "1"), u("1"), ())]),
                         "divides")
        self.assertEqual(divided_fault(TWO, (), u("x"), [Divided(TWO, u("0", "1"), (), ())]), "divides")
        told = [Divided(ZERO, u("0", "1"), (), ()), Divided(ONE, u("3"), (), ())]
        self.assertEqual(divided_fault(PAIR, u("1"), u("1"), told), "monic")

    def test_sum(self):
        left, right = u("-2", "0", "1"), u("-x", "1")
        self.assertEqual(divided_fault(TWO, left, right, [Divided(TWO, u("-x", "1"), u("1"), u("1"))]), "sum")
        self.assertEqual(divided_fault(TWO, left, right, [Divided(TWO, u("1"), u("1"), ())]), "sum")
        self.assertEqual(divided_fault(TWO, u("1"), (), [Divided(TWO, u("1"), (), u("1"))]), "sum")
        told = [Divided(ZERO, u("1"), (), ()), Divided(ONE, u("0", "1"), (), ())]
        self.assertEqual(divided_fault(PAIR, u("1"), u("1"), told), "divides")

    def test_others_than_those_found(self):
        dice = dice_of(283)
        for turn in range(30):
            one, roots = split_tower(dice, SHAPES[turn % len(SHAPES)])
            many = len(one.letters)
            rows = [[some_element(dice, many, terms=2, with_t=False) for _ in range(dice.randint(0, 3))]
                    for _ in range(2)]
            found = common_divisors(one, *rows)
            self.assertIsNone(divided_fault(one, *rows, found))
            element = with_root(dice, one.letters, roots)
            finer = [Divided(part, [reduced(part, row) for row in result.divisor], result.left, result.right)
                     for result in found for kind in zero_parts(result.tower, element) for part in kind]
            self.assertIsNone(divided_fault(one, *rows, finer))
            last = found[-1]
            wrong = [*found[:-1],
                     Divided(last.tower, last.divisor + u("1", letters=one.letters), last.left, last.right)]
            self.assertIn(divided_fault(one, *rows, wrong), ("divides", "sum"))

    def test_with_t(self):
        one = tower("x: x**2 - t")
        left, right = u("-t", "0", "1"), u("x", "t")
        found = common_divisors(one, left, right)
        self.assertIsNone(divided_fault(one, left, right, found))
        self.assertEqual(divided_fault(one, left, right, [Divided(one, u("x", "1"), (), u("1"))]), "divides")
        self.assertEqual(divided_fault(one, left, right, [Divided(one, u("1"), (), u("1"))]), "sum")


if __name__ == "__main__":
    unittest.main()
