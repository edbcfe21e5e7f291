"""[1.1], [1.2]: ratios."""

import unittest
from fractions import Fraction

from neverfactored.errors import BadRatio, DividedByNought
from neverfactored.ratios import (
    ONE, ZERO, is_ratio, is_whole, make_ratio, ratio_compare, ratio_minus, ratio_negative, ratio_over, ratio_plus,
    ratio_power, ratio_text, ratio_times)
from tests.support import ODD_THINGS, Case, dice_of, some_ratio

GREAT = 10 ** 299


class WholeTest(Case):

    def test_without_bounds(self):
        for thing in (0, 1, -1, 7, GREAT, -GREAT, 10 ** 5000):
            self.assertIs(is_whole(thing), True)

    def test_true_and_false_are_none(self):
        self.assertIs(is_whole(True), False)
        self.assertIs(is_whole(False), False)
        self.assertIs(is_whole(True, 0, 5), False)
        self.assertIs(is_whole(False, low=0), False)

    def test_things_of_other_kinds(self):
        for thing in ("1", "", 1.0, 0.0, None, [], (), (1,), [1], {}, set(), b"1", object(), int, Fraction(1)):
            self.assertIs(is_whole(thing), False)
            self.assertIs(is_whole(thing, 0), False)
            self.assertIs(is_whole(thing, None, 3), False)

    def test_bounds_belong_to_it(self):
        self.assertEqual([is_whole(k, 2, 4) for k in range(7)], [False, False, True, True, True, False, False])
        self.assertEqual([is_whole(k, low=2) for k in range(4)], [False, False, True, True])
        self.assertEqual([is_whole(k, high=2) for k in range(4)], [True, True, True, False])
        self.assertIs(is_whole(0, 0, 0), True)
        self.assertIs(is_whole(-1, 0), False)
        self.assertIs(is_whole(1, None, 0), False)
        self.assertIs(is_whole(-5, None, 0), True)
        self.assertIs(is_whole(3, 4, 2), False)


class RatioTest(Case):

    def test_constants(self):
        self.same(ZERO, (0, 1))
        self.same(ONE, (1, 1))

    def test_is_ratio(self):
        for thing in ((0, 1), (1, 1), (-1, 1), (1, 2), (-3, 2), (GREAT, 1), (1, GREAT), (2, 3), (10 ** 400, 3)):
            self.assertIs(is_ratio(thing), True, thing)

    def test_is_ratio_not_in_lowest_terms(self):
        for thing in ((2, 2), (2, 4), (-2, 4), (0, 2), (0, 3), (15, 5), (6, 4)):
            self.assertIs(is_ratio(thing), False, thing)

    def test_is_ratio_of_bottoms_of_0_or_below(self):
        for thing in ((1, 0), (0, 0), (1, -1), (-1, -1), (0, -1), (3, -2)):
            self.assertIs(is_ratio(thing), False, thing)

    def test_is_ratio_of_other_things(self):
        for thing in ODD_THINGS + ([1, 1], (1,), (1, 1, 1), (True, 1), (1, True), (False, 1), (1.0, 1), (1, 1.0),
                                   ("1", "1"), "11", (None, 1), ((1, 1), (1, 1)), Fraction(1, 2)):
            self.assertIs(is_ratio(thing), False, thing)

    def test_make_ratio(self):
        self.same(make_ratio(3), (3, 1))
        self.same(make_ratio(0), (0, 1))
        self.same(make_ratio(6, 4), (3, 2))
        self.same(make_ratio(-6, 4), (-3, 2))
        self.same(make_ratio(2, bottom=2), (1, 1))
        self.same(make_ratio(top=7, bottom=7 * GREAT), (1, GREAT))

    def test_make_ratio_with_a_bottom_below_0(self):
        self.same(make_ratio(1, -2), (-1, 2))
        self.same(make_ratio(-6, -4), (3, 2))
        self.same(make_ratio(5, -1), (-5, 1))

    def test_make_ratio_with_top_0(self):
        self.same(make_ratio(0, 5), (0, 1))
        self.same(make_ratio(0, -5), (0, 1))

    def test_make_ratio_refused(self):
        for top in (True, False, 1.0, "1", None, (1, 1), [1]):
            self.refused(BadRatio, {"what": "top"}, make_ratio, top)
            self.refused(BadRatio, {"what": "top"}, make_ratio, top, 2)
        for bottom in (0, True, False, 2.0, "1", None, (1, 1), [1]):
            self.refused(BadRatio, {"what": "bottom"}, make_ratio, 1, bottom)
            self.refused(BadRatio, {"what": "bottom"}, make_ratio, 0, bottom)

    def test_make_ratio_with_both_wrong_tells_the_top(self):
        self.refused(BadRatio, {"what": "top"}, make_ratio, "1", 0)
        self.refused(BadRatio, {"what": "top"}, make_ratio, True, None)


class ReckoningTest(Case):

    def test_followed_by_hand(self):
        self.same(ratio_plus((1, 2), (1, 6)), (2, 3))
        self.same(ratio_plus((1, 2), (-1, 2)), (0, 1))
        self.same(ratio_minus((1, 2), (1, 6)), (1, 3))
        self.same(ratio_minus((1, 6), (1, 2)), (-1, 3))
        self.same(ratio_times((2, 3), (3, 4)), (1, 2))
        self.same(ratio_times((0, 1), (3, 4)), (0, 1))
        self.same(ratio_over((1, 2), (-1, 4)), (-2, 1))
        self.same(ratio_over((0, 1), (-3, 4)), (0, 1))
        self.same(ratio_negative((1, 2)), (-1, 2))
        self.same(ratio_negative((0, 1)), (0, 1))
        self.same(ratio_negative((-5, 3)), (5, 3))

    def test_against_fractions(self):
        dice = dice_of(11)
        for _ in range(300):
            one, other = some_ratio(dice, 12), some_ratio(dice, 12)
            left, right = Fraction(*one), Fraction(*other)
            for call, told in ((ratio_plus, left + right), (ratio_minus, left - right), (ratio_times, left * right)):
                self.same(call(one, other), (told.numerator, told.denominator))
            if right:
                told = left / right
                self.same(ratio_over(one, other), (told.numerator, told.denominator))
            self.assertEqual(ratio_compare(one, other), (left > right) - (left < right))

    def test_division_by_nought(self):
        self.refused(DividedByNought, {}, ratio_over, (1, 2), (0, 1))
        self.refused(DividedByNought, {}, ratio_over, (0, 1), (0, 1))

    def test_powers(self):
        self.same(ratio_power((-2, 3), 1), (-2, 3))
        self.same(ratio_power((-2, 3), 2), (4, 9))
        self.same(ratio_power((-2, 3), 3), (-8, 27))
        self.same(ratio_power((2, 1), 900), (2 ** 900, 1))
        self.same(ratio_power((1, 3), 7), (1, 3 ** 7))
        for power in range(30):
            self.same(ratio_power((-3, 2), power), ((-3) ** power, 2 ** power))

    def test_power_0_is_1(self):
        for one in ((0, 1), (1, 1), (-3, 2), (5, 1)):
            self.same(ratio_power(one, 0), (1, 1))

    def test_powers_of_0(self):
        for power in (1, 2, 3, 1000):
            self.same(ratio_power((0, 1), power), (0, 1))

    def test_compare(self):
        self.same(ratio_compare((1, 2), (2, 3)), -1)
        self.same(ratio_compare((2, 3), (1, 2)), 1)
        self.same(ratio_compare((2, 3), (2, 3)), 0)
        self.same(ratio_compare((-1, 2), (-2, 3)), 1)
        self.same(ratio_compare((-1, 2), (1, 3)), -1)
        self.same(ratio_compare((0, 1), (0, 1)), 0)
        self.same(ratio_compare((0, 1), (-1, 9)), 1)

    def test_texts(self):
        for one, text in (((3, 1), "3"), ((-1, 2), "-1/2"), ((0, 1), "0"), ((-7, 1), "-7"), ((5, 3), "5/3"),
                          ((1, 1), "1"), ((GREAT, 1), "1" + "0" * 299)):
            self.assertEqual(ratio_text(one), text)


if __name__ == "__main__":
    unittest.main()
