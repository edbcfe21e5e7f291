"""[8.1] to [8.3], [8.10]: sums and products of values over all points, and the equations of all values."""

import unittest

from neverfactored.divisors import zero_parts
from neverfactored.element import element_at, element_plus, element_scaled
from neverfactored.errors import HasFree
from neverfactored.matrices import determinant
from neverfactored.polys import poly_over, poly_plain, poly_times
from neverfactored.quotients import as_ratio, ratio_quotient
from neverfactored.ratios import ratio_negative, ratio_plus, ratio_times
from neverfactored.reducing import multiply_table, tower_constant, tower_plus, tower_times
from neverfactored.sums import count_nought, full_equation, least_equation, product_over, sum_over
from neverfactored.towers import Tower
from tests.support import (
    Case, dice_of, e, p, points_of, some_element, some_tower, split_tower, tower, with_root)

EMPTY = tower()
TWO = tower("x: x**2 - 2")
ROOTS = tower("x: x**2 - 2", "y: y**2 - 2")
SHAPES = ((1,), (2,), (4,), (2, 2), (3, 2), (1, 3), (2, 2, 2), (2, 1, 2), (2, 2, 2, 1))
# Towers whose points are no ratios.
OTHERS = (TWO, ROOTS, tower("x: x**3 - 2"), tower("x: x**2 - 3*x + 1", "y: y**3 - x*y - 1"),
          tower("x: x**2 + 1", "y: y**2 - x", "z: z**2 - x*y - 3"), tower("t: t**2 - 5", "x: x**2 - t"))
CALLS = (sum_over, product_over, full_equation, least_equation, count_nought)


def table_at(one, element):
    """Return (trace, determinant) of the multiply table."""
    table = multiply_table(one, element)
    trace = (0, 1)
    for place, row in enumerate(table):
        trace = ratio_plus(trace, as_ratio(row[place]))
    return trace, as_ratio(determinant(table))


def put_in(one, poly, element):
    """Return the reduced element that a poly is with the element for its letter."""
    found = ()
    for ratio in poly[::-1]:
        found = tower_plus(one, tower_times(one, found, element), tower_constant(one, ratio_quotient(ratio)))
    return found


class AtThePointsTest(Case):

    def test_values_that_are_ratios(self):
        dice = dice_of(569)
        noughts = 0
        for turn in range(90):
            one, roots = split_tower(dice, SHAPES[turn % len(SHAPES)])
            element = (with_root(dice, one.letters, roots) if turn % 3 == 0
                       else some_element(dice, len(one.letters), with_t=False))
            values = [element_at(element, point) for point in points_of(roots)]
            total, product, full, least = (0, 1), (1, 1), p("1"), p("1")
            for value in values:
                total, product = ratio_plus(total, value), ratio_times(product, value)
                full = poly_times(full, (ratio_negative(value), (1, 1)))
            for value in set(values):
                least = poly_times(least, (ratio_negative(value), (1, 1)))
            self.same(sum_over(one, element), total)
            self.same(product_over(one, element), product)
            self.same(full_equation(one, element), full)
            self.same(least_equation(one, element), least)
            self.same(count_nought(one, element), values.count((0, 1)))
            noughts += (0, 1) in values
        self.assertGreater(noughts, 25)

    def test_of_no_letter(self):
        self.same(sum_over(EMPTY, e("5/3", ())), (5, 3))
        self.same(product_over(EMPTY, e("5/3", ())), (5, 3))
        self.same(full_equation(EMPTY, e("5/3", ())), p("t - 5/3"))
        self.same(least_equation(Tower((), ()), ()), p("t"))
        self.same(sum_over(EMPTY, ()), (0, 1))
        self.same(product_over(EMPTY, ()), (0, 1))
        self.same((count_nought(EMPTY, ()), count_nought(EMPTY, e("1", ()))), (1, 0))


class TableTest(Case):

    def test_trace_and_determinant(self):
        dice = dice_of(571)
        for turn in range(60):
            one = OTHERS[turn % len(OTHERS)]
            element = some_element(dice, len(one.letters), power=4, with_t=False)
            trace, product = table_at(one, element)
            self.same(sum_over(one, element), trace)
            self.same(product_over(one, element), product)

    def test_towers_by_dice(self):
        dice = dice_of(577)
        for turn in range(30):
            one = some_tower(dice, ((3,), (2, 3), (3, 2, 2))[turn % 3])
            element = some_element(dice, len(one.letters), with_t=False)
            trace, product = table_at(one, element)
            self.same(sum_over(one, element), trace)
            self.same(product_over(one, element), product)

    def test_over_the_parts_that_an_element_makes(self):
        dice = dice_of(587)
        parted = 0
        for turn in range(40):
            one, roots = split_tower(dice, SHAPES[1 + turn % 7])
            zeros, others = zero_parts(one, with_root(dice, one.letters, roots))
            element = some_element(dice, len(one.letters), with_t=False)
            total, product, full = (0, 1), (1, 1), p("1")
            for part in zeros + others:
                total = ratio_plus(total, sum_over(part, element))
                product = ratio_times(product, product_over(part, element))
                full = poly_times(full, full_equation(part, element))
            self.same((sum_over(one, element), product_over(one, element)), (total, product))
            self.same(full_equation(one, element), full)
            parted += len(zeros + others) > 1
        self.assertGreater(parted, 15)
        zeros, others = zero_parts(ROOTS, e("x - y"))
        self.assertEqual([sum_over(part, e("x*y")) for part in zeros + others], [(4, 1), (-4, 1)])
        self.same(sum_over(ROOTS, e("x*y")), (0, 1))

    def test_the_product_is_0_exactly_if_the_element_is_at_some_point(self):
        for one, text in ((ROOTS, "x - y"), (ROOTS, "0"), (TWO, "x**2 - 2"), (OTHERS[3], "x**2 - 3*x + 1")):
            self.same(product_over(one, e(text, one.letters)), (0, 1))
            self.assertGreater(count_nought(one, e(text, one.letters)), 0)
        for one, text in ((ROOTS, "x - 2*y"), (TWO, "x - 1"), (OTHERS[2], "x**2 - x"), (OTHERS[3], "y - x + 5")):
            self.assertNotEqual(product_over(one, e(text, one.letters)), (0, 1))
            self.same(count_nought(one, e(text, one.letters)), 0)


class EquationTest(Case):

    def test_what_is_said_for_all(self):
        dice = dice_of(593)
        for turn in range(48):
            one = OTHERS[turn % len(OTHERS)]
            element = some_element(dice, len(one.letters), terms=3, with_t=False)
            full, least = full_equation(one, element), least_equation(one, element)
            self.assertEqual((len(full) - 1, full[-1], least[-1]), (one.count, (1, 1), (1, 1)))
            self.same(full[-2], ratio_negative(sum_over(one, element)))
            self.same(put_in(one, least, element), ())
            self.same(least, poly_plain(full))
            self.same(poly_over(full, least)[1], ())

    def test_of_least_degree(self):
        self.same(least_equation(ROOTS, e("x*y")), p("t**2 - 4"))
        self.same(least_equation(ROOTS, e("x")), p("t**2 - 2"))
        self.same(least_equation(ROOTS, e("7")), p("t - 7"))
        self.same(least_equation(ROOTS, e("x + 2*y")), p("t**4 - 20*t**2 + 36"))
        self.same(full_equation(ROOTS, e("x")), p("t**4 - 4*t**2 + 4"))

    def test_of_8_10(self):
        self.same((sum_over(ROOTS, e("x + y")), product_over(ROOTS, e("x + y"))), ((0, 1), (0, 1)))
        self.same(count_nought(ROOTS, e("x + y")), 2)
        self.same(full_equation(ROOTS, e("x + y")), p("t**4 - 8*t**2"))
        self.same(least_equation(ROOTS, e("x + y")), p("t**3 - 8*t"))
        one = e("x + 1", "x")
        self.same((sum_over(TWO, one), product_over(TWO, one)), ((2, 1), (-1, 1)))
        self.same(least_equation(TWO, one), p("t**2 - 2*t - 1"))

    def test_elements_that_are_not_reduced(self):
        for call in CALLS:
            self.same(call(ROOTS, e("x**3*y**2 + y**5")), call(ROOTS, e("4*x + 4*y")))
            self.same(call(ROOTS, e("x**2 - 2")), call(ROOTS, ()))

    def test_bottoms(self):
        one = tower("x: x**2 - 1/3*x + 1/7")
        element = e("5/2*x - 1/9", "x")
        self.same(sum_over(one, element), (11, 18))
        trace, product = table_at(one, element)
        self.same((sum_over(one, element), product_over(one, element)), (trace, product))
        self.same(full_equation(one, element), (product, ratio_negative(trace), (1, 1)))

    def test_sums_are_linear(self):
        dice = dice_of(599)
        for turn in range(12):
            one = OTHERS[turn % len(OTHERS)]
            left, right = [some_element(dice, len(one.letters), with_t=False) for _ in range(2)]
            total = element_plus(element_scaled(left, ratio_quotient((3, 2))), right)
            self.same(sum_over(one, total), ratio_plus(ratio_times((3, 2), sum_over(one, left)), sum_over(one, right)))

    def test_many_points(self):
        one = tower("x: x**5 - x - 1", "y: y**4 - x*y - 2")
        element = e("x*y + 1")
        self.same(full_equation(one, element)[0], product_over(one, element))
        self.same(put_in(one, least_equation(one, element), element), ())


class FreeTest(Case):

    def test_the_free_letter(self):
        for call in CALLS:
            self.refused(HasFree, {}, call, tower("x: x**2 - t"), e("x", "x"))
            self.refused(HasFree, {}, call, tower("x: x**2 - t"), ())
            self.refused(HasFree, {}, call, TWO, e("t*x", "x"))
            self.refused(HasFree, {}, call, ROOTS, e("x + (1)/(t)"))
            self.refused(HasFree, {}, call, EMPTY, e("t", ()))

    def test_as_the_element_is_passed(self):
        for call in CALLS:
            self.refused(HasFree, {}, call, TWO, e("t*x**2 - 2*t", "x"))
            self.refused(HasFree, {}, call, tower("x: x"), e("t*x", "x"))

    def test_t_as_a_named_letter(self):
        one = tower("t: t**2 - 5", "x: x - t")
        self.same(sum_over(one, e("t*x", "tx")), (10, 1))
        self.same(least_equation(one, e("t*x", "tx")), p("t - 5"))


if __name__ == "__main__":
    unittest.main()
