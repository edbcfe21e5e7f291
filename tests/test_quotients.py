"""[1.5]: quotients."""

import unittest
from fractions import Fraction

from neverfactored.errors import DividedByNought, Pole
from neverfactored.quotients import (
    QUOTIENT_ONE, QUOTIENT_ZERO, as_ratio, has_t, is_quotient, make_quotient, poly_quotient, quotient_at,
    quotient_minus, quotient_negative, quotient_over, quotient_plus, quotient_times, ratio_quotient)
from tests.support import ODD_THINGS, Case, dice_of, p, some_poly, some_quotient, some_ratio

POLY_ONE = ((1, 1),)


def value(quotient, number):
    """Return the value of a quotient, reckoned apart from the package, or None at a pole."""
    top, bottom = (sum((Fraction(*ratio) * number ** power for power, ratio in enumerate(poly)), Fraction(0))
                   for poly in quotient)
    return None if bottom == 0 else top / bottom


class KindTest(Case):

    def test_constants(self):
        self.same(QUOTIENT_ZERO, ((), ((1, 1),)))
        self.same(QUOTIENT_ONE, (((1, 1),), ((1, 1),)))

    def test_is_quotient(self):
        for thing in (QUOTIENT_ZERO, QUOTIENT_ONE, (((-1, 2),), POLY_ONE), (p("t"), POLY_ONE), (POLY_ONE, p("t")),
                      (p("2*t + 2"), p("t**2 - 2")), (p("t - 1"), p("t + 1"))):
            self.assertIs(is_quotient(thing), True, thing)

    def test_is_quotient_with_a_common_divisor(self):
        for thing in ((p("t"), p("t")), (p("t**2 - 1"), p("t + 1")), (p("2*t"), p("t**2")), ((), p("t")),
                      (p("t**4 - 4"), p("t**3 - 2*t"))):
            self.assertIs(is_quotient(thing), False, thing)

    def test_is_quotient_with_a_bottom_that_is_not_monic(self):
        for thing in ((POLY_ONE, p("2")), (p("t"), p("2*t + 1")), ((), p("-1")), (POLY_ONE, ()), ((), ())):
            self.assertIs(is_quotient(thing), False, thing)

    def test_is_quotient_of_other_things(self):
        for thing in ODD_THINGS + ([(), POLY_ONE], ((), POLY_ONE, ()), ((), [(1, 1)]), ([], POLY_ONE), (POLY_ONE,),
                                   (((0, 1),), POLY_ONE), (((1, 1), (0, 1)), POLY_ONE), (1, 2), (0, POLY_ONE),
                                   (((2, 2),), POLY_ONE), (((True, 1),), POLY_ONE), (None, POLY_ONE),
                                   (POLY_ONE, ((0, 2), (1, 1))), (POLY_ONE, ((True, 1), (1, 1))),
                                   (POLY_ONE, [(0, 1), (1, 1)]), (POLY_ONE, (None, (1, 1)))):
            self.assertIs(is_quotient(thing), False, thing)

    def test_make_quotient(self):
        self.same(make_quotient(p("t**2 - 1"), p("t + 1")), (p("t - 1"), POLY_ONE))
        self.same(make_quotient(p("t"), p("2*t + 4")), (p("1/2*t"), p("t + 2")))
        self.same(make_quotient(p("2*t**2 - 2"), p("-4*t - 4")), (p("-1/2*t + 1/2"), POLY_ONE))
        self.same(make_quotient(p("3"), p("6")), (p("1/2"), POLY_ONE))
        self.same(make_quotient((), p("t**2 - 2")), QUOTIENT_ZERO)
        self.same(make_quotient((), p("-2")), QUOTIENT_ZERO)
        self.same(make_quotient(p("t"), p("t**2")), (POLY_ONE, p("t")))
        self.same(make_quotient(p("t**2"), p("t - 1")), (p("t**2"), p("t - 1")))

    def test_make_quotient_refused(self):
        self.refused(DividedByNought, {}, make_quotient, p("t"), ())
        self.refused(DividedByNought, {}, make_quotient, (), ())

    def test_make_quotient_of_any_polys(self):
        dice = dice_of(31)
        for _ in range(100):
            top, bottom = some_poly(dice, 4), some_poly(dice, 4)
            if bottom:
                found = make_quotient(top, bottom)
                self.assertTrue(is_quotient(found))
                for number in range(-3, 4):
                    told = value((top, bottom), number)
                    if told is not None:
                        self.assertEqual(value(found, number), told)

    def test_of_a_ratio_and_of_a_poly(self):
        self.same(ratio_quotient((-1, 2)), (((-1, 2),), POLY_ONE))
        self.same(ratio_quotient((0, 1)), QUOTIENT_ZERO)
        self.same(ratio_quotient((1, 1)), QUOTIENT_ONE)
        self.same(poly_quotient(p("2*t - 1")), (p("2*t - 1"), POLY_ONE))
        self.same(poly_quotient(()), QUOTIENT_ZERO)
        self.same(poly_quotient(POLY_ONE), QUOTIENT_ONE)

    def test_has_t(self):
        for quotient in (QUOTIENT_ZERO, QUOTIENT_ONE, ratio_quotient((-7, 3))):
            self.assertIs(has_t(quotient), False)
        for quotient in ((p("t"), POLY_ONE), (POLY_ONE, p("t")), (p("t"), p("t + 1")), (p("5"), p("t**2 + 1"))):
            self.assertIs(has_t(quotient), True)

    def test_as_ratio(self):
        self.same(as_ratio(QUOTIENT_ZERO), (0, 1))
        self.same(as_ratio(QUOTIENT_ONE), (1, 1))
        self.same(as_ratio(ratio_quotient((-7, 3))), (-7, 3))


class ReckoningTest(Case):

    def test_followed_by_hand(self):
        one, other = make_quotient(POLY_ONE, p("t")), make_quotient(POLY_ONE, p("t + 1"))
        self.same(quotient_plus(one, other), (p("2*t + 1"), p("t**2 + t")))
        self.same(quotient_minus(one, other), (POLY_ONE, p("t**2 + t")))
        self.same(quotient_minus(one, one), QUOTIENT_ZERO)
        self.same(quotient_plus(one, quotient_negative(one)), QUOTIENT_ZERO)
        self.same(quotient_times(one, other), (POLY_ONE, p("t**2 + t")))
        self.same(quotient_times(one, poly_quotient(p("2*t"))), ratio_quotient((2, 1)))
        self.same(quotient_over(one, other), (p("t + 1"), p("t")))
        self.same(quotient_over(one, poly_quotient(p("2*t"))), (p("1/2"), p("t**2")))
        self.same(quotient_negative(one), (p("-1"), p("t")))
        self.same(quotient_negative(QUOTIENT_ZERO), QUOTIENT_ZERO)

    def test_sums_that_lose_a_part_of_their_bottoms(self):
        one = make_quotient(POLY_ONE, p("t**2 - t"))
        self.same(quotient_plus(one, make_quotient(POLY_ONE, p("t"))), (POLY_ONE, p("t - 1")))
        self.same(quotient_plus(make_quotient(p("t"), p("t + 1")), make_quotient(POLY_ONE, p("t + 1"))), QUOTIENT_ONE)

    def test_products_with_nought(self):
        one = make_quotient(POLY_ONE, p("t**2 - t"))
        self.same(quotient_times(one, QUOTIENT_ZERO), QUOTIENT_ZERO)
        self.same(quotient_times(QUOTIENT_ZERO, one), QUOTIENT_ZERO)
        self.same(quotient_over(QUOTIENT_ZERO, one), QUOTIENT_ZERO)
        self.same(quotient_plus(one, QUOTIENT_ZERO), one)
        self.same(quotient_plus(QUOTIENT_ZERO, one), one)
        self.same(quotient_minus(QUOTIENT_ZERO, one), quotient_negative(one))

    def test_division_by_nought(self):
        self.refused(DividedByNought, {}, quotient_over, QUOTIENT_ONE, QUOTIENT_ZERO)
        self.refused(DividedByNought, {}, quotient_over, QUOTIENT_ZERO, QUOTIENT_ZERO)

    def test_against_values(self):
        dice = dice_of(37)
        for _ in range(200):
            one, other = some_quotient(dice), some_quotient(dice)
            found = [quotient_plus(one, other), quotient_minus(one, other), quotient_times(one, other)]
            if other != QUOTIENT_ZERO:
                found.append(quotient_over(one, other))
            self.assertTrue(all(is_quotient(quotient) for quotient in found))
            for number in (Fraction(2, 7), Fraction(-5, 9), Fraction(31)):
                left, right = value(one, number), value(other, number)
                if left is not None and right:
                    told = [left + right, left - right, left * right, left / right]
                    self.assertEqual([value(quotient, number) for quotient in found], told)

    def test_values(self):
        one = make_quotient(p("t**2 + 1"), p("t - 2"))
        self.same(quotient_at(one, (3, 1)), (10, 1))
        self.same(quotient_at(one, (1, 2)), (-5, 6))
        self.same(quotient_at(QUOTIENT_ZERO, (1, 2)), (0, 1))
        self.same(quotient_at(ratio_quotient((5, 7)), (0, 1)), (5, 7))

    def test_poles(self):
        one = make_quotient(p("t**2 + 1"), p("t**2 - 1/4"))
        self.refused(Pole, {"at": (1, 2)}, quotient_at, one, (1, 2))
        self.refused(Pole, {"at": (-1, 2)}, quotient_at, one, (-1, 2))
        self.refused(Pole, {"at": (0, 1)}, quotient_at, make_quotient(POLY_ONE, p("t")), (0, 1))

    def test_values_of_any_quotients(self):
        dice = dice_of(41)
        for _ in range(100):
            one, ratio = some_quotient(dice), some_ratio(dice)
            told = value(one, Fraction(*ratio))
            if told is None:
                self.refused(Pole, {"at": ratio}, quotient_at, one, ratio)
            else:
                self.same(quotient_at(one, ratio), (told.numerator, told.denominator))


if __name__ == "__main__":
    unittest.main()
