"""[1.3], [1.4]: polys."""

import unittest
from fractions import Fraction

from neverfactored.errors import DividedByNought
from neverfactored.polys import (
    is_poly, make_poly, poly_at, poly_common, poly_degree, poly_minus, poly_monic, poly_over, poly_plain, poly_plus,
    poly_part, poly_power, poly_scaled, poly_slope, poly_times)
from tests.support import ODD_THINGS, Case, dice_of, p, some_poly, some_ratio

POLY_ONE = ((1, 1),)


def value(poly, number):
    """Return the value of a poly, reckoned apart from the package."""
    return sum((Fraction(*ratio) * number ** power for power, ratio in enumerate(poly)), Fraction(0))


class KindTest(Case):

    def test_is_poly(self):
        for thing in ((), ((1, 1),), ((0, 1), (1, 1)), ((0, 1), (0, 1), (-1, 2)), ((0, 1),) * 500 + ((1, 1),)):
            self.assertIs(is_poly(thing), True)

    def test_is_poly_of_other_things(self):
        for thing in ODD_THINGS + (
                [(1, 1)], ((0, 1),), ((1, 1), (0, 1)), ((2, 2),), ([1, 1],), ((1, 1), 1), ((1, 1), None), (1, 1),
                ((True, 1),), ((1, 0), (1, 1)), ((1, 1), [1, 1]), "11", ((1, -1), (1, 1)), {(1, 1): 1}):
            self.assertIs(is_poly(thing), thing == (), thing)

    def test_make_poly(self):
        self.same(make_poly([]), ())
        self.same(make_poly(()), ())
        self.same(make_poly([(0, 1)]), ())
        self.same(make_poly([(0, 1), (0, 1), (0, 1)]), ())
        self.same(make_poly([(1, 2), (0, 1), (0, 1)]), ((1, 2),))
        self.same(make_poly(((0, 1), (3, 1), (0, 1))), ((0, 1), (3, 1)))
        self.same(make_poly([(0, 1), (0, 1), (1, 1)]), ((0, 1), (0, 1), (1, 1)))

    def test_make_poly_leaves_its_list(self):
        ratios = [(1, 2), (0, 1)]
        poly = make_poly(ratios)
        ratios[0] = (5, 1)
        self.same(poly, ((1, 2),))
        self.assertEqual(ratios, [(5, 1), (0, 1)])

    def test_degree(self):
        self.same(poly_degree(()), -1)
        self.same(poly_degree(((5, 1),)), 0)
        self.same(poly_degree(p("t**7 - 1")), 7)


class ReckoningTest(Case):

    def test_with_nought(self):
        one = p("t**2 - 1/2")
        self.same(poly_plus(one, ()), one)
        self.same(poly_plus((), one), one)
        self.same(poly_plus((), ()), ())
        self.same(poly_minus(one, ()), one)
        self.same(poly_minus((), one), p("-t**2 + 1/2"))
        self.same(poly_minus((), ()), ())
        for other in ((), one):
            self.same(poly_times((), other), ())
            self.same(poly_times(other, ()), ())
        self.same(poly_scaled((), (2, 1)), ())
        self.same(poly_scaled(one, (0, 1)), ())
        self.same(poly_power((), 3), ())
        self.same(poly_power((), 0), POLY_ONE)
        self.same(poly_monic(()), ())
        self.same(poly_slope(()), ())
        self.same(poly_at((), (3, 1)), (0, 1))
        self.same(poly_over((), one), ((), ()))

    def test_followed_by_hand(self):
        self.same(poly_plus(p("t**2 + t + 1"), p("-t**2 + 1/2*t - 1")), p("3/2*t"))
        self.same(poly_plus(p("t**2"), p("-t**2")), ())
        self.same(poly_minus(p("t**2 + t + 1"), p("t**2 + t")), POLY_ONE)
        self.same(poly_minus(p("t"), p("t**3")), p("-t**3 + t"))
        self.same(poly_times(p("t + 1"), p("t - 1")), p("t**2 - 1"))
        self.same(poly_times(p("2/3"), p("3/2")), POLY_ONE)
        self.same(poly_times(p("1/2*t + 1/3"), p("6*t")), p("3*t**2 + 2*t"))
        self.same(poly_scaled(p("t**2 - 1/2"), (-2, 3)), p("-2/3*t**2 + 1/3"))
        self.same(poly_power(p("t + 1"), 3), p("t**3 + 3*t**2 + 3*t + 1"))
        self.same(poly_power(p("t + 1"), 1), p("t + 1"))
        self.same(poly_power(p("t + 1"), 0), POLY_ONE)
        self.same(poly_monic(p("2*t**2 - 1")), p("t**2 - 1/2"))
        self.same(poly_monic(p("t - 7")), p("t - 7"))
        self.same(poly_monic(p("-3")), POLY_ONE)
        self.same(poly_slope(p("t**3 - 1/2*t**2 + 5*t - 9")), p("3*t**2 - t + 5"))
        self.same(poly_slope(p("5")), ())
        self.same(poly_slope(p("t**4")), p("4*t**3"))
        self.same(poly_at(p("t**2 - 2"), (1, 2)), (-7, 4))
        self.same(poly_at(p("5"), (1, 2)), (5, 1))

    def test_division_followed_by_hand(self):
        self.same(poly_over(p("t**3 - 1"), p("t - 1")), (p("t**2 + t + 1"), ()))
        self.same(poly_over(p("t**2 + 1"), p("2*t")), (p("1/2*t"), POLY_ONE))
        self.same(poly_over(p("t"), p("t**2")), ((), p("t")))
        self.same(poly_over(p("t**2 + 1"), p("1/2")), (p("2*t**2 + 2"), ()))
        self.same(poly_over(p("t**4"), p("t**2 + 1")), (p("t**2 - 1"), POLY_ONE))

    def test_division_by_nought(self):
        self.refused(DividedByNought, {}, poly_over, p("t"), ())
        self.refused(DividedByNought, {}, poly_over, (), ())

    def test_against_values(self):
        dice = dice_of(13)
        for _ in range(150):
            one, other, ratio = some_poly(dice, 5), some_poly(dice, 5), some_ratio(dice)
            number = Fraction(*ratio)
            left, right = value(one, number), value(other, number)
            for found, told in ((poly_plus(one, other), left + right), (poly_minus(one, other), left - right),
                                (poly_times(one, other), left * right), (poly_scaled(one, ratio), left * number),
                                (poly_power(one, 3), left ** 3)):
                self.assertTrue(is_poly(found))
                self.assertEqual(value(found, number), told)
            told = poly_at(one, ratio)
            self.same(told, (left.numerator, left.denominator))

    def test_quotient_and_rest(self):
        dice = dice_of(17)
        for _ in range(150):
            one, other = some_poly(dice, 6), some_poly(dice, 3)
            if other:
                quotient, rest = poly_over(one, other)
                self.assertTrue(is_poly(quotient) and is_poly(rest))
                self.assertEqual(poly_plus(poly_times(quotient, other), rest), one)
                self.assertLess(poly_degree(rest), poly_degree(other))

    def test_slope_of_a_product(self):
        dice = dice_of(19)
        for _ in range(60):
            one, other = some_poly(dice, 4), some_poly(dice, 4)
            told = poly_plus(poly_times(poly_slope(one), other), poly_times(one, poly_slope(other)))
            self.same(poly_slope(poly_times(one, other)), told)


class CommonTest(Case):

    def test_with_nought(self):
        self.same(poly_common((), ()), ())
        self.same(poly_common(p("2*t - 1"), ()), p("t - 1/2"))
        self.same(poly_common((), p("2*t - 1")), p("t - 1/2"))
        self.same(poly_common((), p("-3")), POLY_ONE)

    def test_followed_by_hand(self):
        self.same(poly_common(p("2*t**2 - 2"), p("3*t + 3")), p("t + 1"))
        self.same(poly_common(p("t**2 - 1"), p("t**2 + 1")), POLY_ONE)
        self.same(poly_common(p("4"), p("6")), POLY_ONE)
        self.same(poly_common(p("4"), p("2*t")), POLY_ONE)
        self.same(poly_common(p("2*t"), p("7")), POLY_ONE)
        self.same(poly_common(p("-2*t**2 + 4"), p("-2*t**2 + 4")), p("t**2 - 2"))
        self.same(poly_common(p("t**3"), p("5*t**2")), p("t**2"))
        self.same(poly_common(p("t**2"), p("5*t**3")), p("t**2"))

    def test_of_products(self):
        dice = dice_of(23)
        for _ in range(120):
            one, other, both = some_poly(dice, 3), some_poly(dice, 3), some_poly(dice, 3)
            if one and other and both:
                found = poly_common(poly_times(one, both), poly_times(other, both))
                self.assertTrue(is_poly(found))
                self.assertEqual(found[-1], (1, 1))
                self.assertEqual(poly_over(found, both)[1], ())
                rest = poly_over(found, both)[0]
                self.assertEqual(poly_over(one, rest)[1], ())
                self.assertEqual(poly_over(other, rest)[1], ())
                self.assertEqual(found, poly_common(poly_times(other, both), poly_times(one, both)))

    def test_numbers_that_hide_a_divisor(self):
        for great in (2 ** 61 - 1, 2 ** 24, 2 ** 200, 3 * 2 ** 90):
            self.same(poly_common(p("t"), ((great, 1), (1, 1))), POLY_ONE)
            both = ((1, 1), (great, 1))
            self.same(poly_common(poly_times(both, p("t + 1")), poly_times(both, p("t + 2"))), ((1, great), (1, 1)))
            self.same(poly_common(((1, 1), (great, 1)), ((2, 1), (great, 1))), POLY_ONE)

    def test_part(self):
        self.same(poly_part(p("1/2*t**2 - 1/2"), p("t + 1")), p("1/2*t - 1/2"))
        self.same(poly_part(p("3*t"), POLY_ONE), p("3*t"))
        self.same(poly_part((), p("t + 1/3")), ())
        dice = dice_of(617)
        for _ in range(40):
            one, other = some_poly(dice, 9), poly_monic(some_poly(dice, 9)) or POLY_ONE
            self.same(poly_part(poly_times(one, other), other), one)

    def test_great_numbers(self):
        both = ((10 ** 60 + 7, 3), (7, 10 ** 40), (1, 1))
        one, other = p("t**3 - 3*t + 1"), p("7*t**2 + 1/9")
        self.same(poly_common(poly_times(one, both), poly_times(other, both)), both)


class PlainTest(Case):

    def test_double_and_threefold_roots(self):
        self.same(poly_plain(poly_times(poly_power(p("t - 1"), 2), poly_power(p("t + 2"), 3))), p("t**2 + t - 2"))
        self.same(poly_plain(p("t**3")), p("t"))
        self.same(poly_plain(p("t**2 - 2*t + 1")), p("t - 1"))

    def test_roots_that_are_no_ratios(self):
        self.same(poly_plain(poly_power(p("t**2 - 2"), 2)), p("t**2 - 2"))
        self.same(poly_plain(poly_times(poly_power(p("t**2 + 1"), 3), p("5*t"))), p("t**3 + t"))

    def test_plain_ones_are_made_monic(self):
        self.same(poly_plain(p("2*t**2 - 4")), p("t**2 - 2"))
        self.same(poly_plain(p("t - 1/2")), p("t - 1/2"))

    def test_degree_0_gives_1(self):
        self.same(poly_plain(p("7")), POLY_ONE)
        self.same(poly_plain(p("-1/2")), POLY_ONE)

    def test_nought_is_refused(self):
        self.refused(DividedByNought, {}, poly_plain, ())

    def test_of_products(self):
        dice = dice_of(29)
        for _ in range(60):
            roots = sorted({dice.randint(-3, 3) for _ in range(3)})
            poly, told = ((dice.randint(1, 4), 3),), POLY_ONE
            for root in roots:
                poly = poly_times(poly, poly_power(((-root, 1), (1, 1)), dice.randint(1, 3)))
                told = poly_times(told, ((-root, 1), (1, 1)))
            self.same(poly_plain(poly), told)


if __name__ == "__main__":
    unittest.main()
