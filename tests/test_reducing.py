"""[2.4] to [2.7], [2.12]: elements reduced by a tower."""

import unittest

from neverfactored.element import (
    element_at, element_has_t, element_minus, element_plus, element_times, is_element, letter_element, widened)
from neverfactored.quotients import (
    QUOTIENT_ONE, QUOTIENT_ZERO, is_quotient, quotient_at, quotient_plus, quotient_times)
from neverfactored.reducing import (
    Reduction, as_quotient, basis_of, combined_element, coordinates_of, is_same, multiply_table, reduced,
    reduction_fault, told_reduction, tower_constant, tower_letter, tower_minus, tower_plus, tower_power, tower_times)
from tests.support import Case, dice_of, e, q, some_element, some_quotient, some_tower, tower

EXAMPLE = tower("x: x**2 - 2", "y: y**2 - 2*x")
THREE = ("x", "y", "z")
SHAPES = ((1,), (3,), (2, 2), (2, 3), (3, 1), (1, 2), (2, 1, 2), (2, 2, 2))


def some_pair(dice, degrees, with_t):
    """Return a tower by dice and an element over its letters."""
    one = some_tower(dice, degrees, with_t)
    return one, some_element(dice, len(degrees), power=4, with_t=with_t)


def is_reduced(one, element):
    """Return whether each exponent is below the degree at its place, reckoned apart from the package."""
    return is_element(element, len(one.letters)) and all(
        exponents[place] < degree for exponents, _ in element for place, degree in enumerate(one.degrees))


class ReducedTest(Case):

    def test_followed_by_hand(self):
        self.same(reduced(EXAMPLE, e("y**3*x")), e("4*y"))
        self.same(reduced(EXAMPLE, e("x**2 - 1")), e("1"))
        self.same(reduced(EXAMPLE, e("y**4")), e("8"))
        self.same(reduced(EXAMPLE, e("x*y + x + y + 1")), e("x*y + x + y + 1"))
        self.same(reduced(EXAMPLE, e("t*x**3 + (1)/(t)*x**2*y")), e("2*x*t + (2)/(t)*y"))
        self.same(reduced(tower("x: x - 3"), e("x**3 - x", "x")), e("24", "x"))
        self.same(reduced(tower("x: x**2 - t"), e("x**5", "x")), e("t**2*x", "x"))
        self.same(reduced(tower("x: x**2 - (1)/(t)"), e("x**4", "x")), e("(1)/(t**2)", "x"))
        self.same(reduced(tower("x: x**2 - x - 1"), e("x**10", "x")), e("55*x + 34", "x"))

    def test_nought(self):
        self.same(reduced(EXAMPLE, ()), ())
        self.same(reduced(EXAMPLE, e("x**2 - 2")), ())
        self.same(reduced(EXAMPLE, e("y**2 - 2*x")), ())
        self.same(reduced(EXAMPLE, e("y**4*x - 8*x")), ())

    def test_a_tower_of_no_letter(self):
        self.same(reduced(tower(), e("1/2*t", ())), e("1/2*t", ()))
        self.same(reduced(tower(), ()), ())

    def test_t_as_a_letter(self):
        one = tower("t: t**2 - 2", "x: x**2 - t")
        self.same(reduced(one, e("x**5*t", ("t", "x"))), e("2*t*x", ("t", "x")))

    def test_great_powers(self):
        self.same(reduced(tower("x: x**2 - 2"), (((1000,), QUOTIENT_ONE),)), (((0,), q(str(2 ** 500))[:1] + (
            ((1, 1),),)),))
        self.same(reduced(tower("x: x**3 - 1", "y: y**2 - x*y + x"), (((0, 900), QUOTIENT_ONE),)),
                  tower_power(tower("x: x**3 - 1", "y: y**2 - x*y + x"), e("y"), 900))

    def test_the_same_value_at_each_point(self):
        one = tower("x: x**2 - 3*x + 2", "y: y**2 - x*y - 2*y + 2*x")
        dice = dice_of(71)
        for _ in range(40):
            element = some_element(dice, 2, terms=6, power=5, with_t=False)
            found = reduced(one, element)
            self.assertTrue(is_reduced(one, found))
            for point in ([(1, 1), (1, 1)], [(1, 1), (2, 1)], [(2, 1), (2, 1)]):
                self.assertEqual(element_at(found, point), element_at(element, point))

    def test_sums_of_products_with_the_equations_change_nothing(self):
        dice = dice_of(73)
        for degrees in SHAPES:
            for with_t in (False, True):
                one, element = some_pair(dice, degrees, with_t)
                found = reduced(one, element)
                self.assertTrue(is_reduced(one, found))
                self.same(reduced(one, found), found)
                more = element
                for equation in one.equations:
                    factor = some_element(dice, len(degrees), terms=2, power=2, with_t=with_t)
                    more = element_plus(more, element_times(factor, widened(equation, len(degrees))))
                self.same(reduced(one, more), found)


class ToldTest(Case):

    def test_followed_by_hand(self):
        told = told_reduction(EXAMPLE, e("y**2*x"))
        self.assertIs(told.__class__, Reduction)
        self.assertEqual(told.rest, e("4"))
        self.assertIs(told.factors.__class__, tuple)
        self.assertIsNone(reduction_fault(EXAMPLE, e("y**2*x"), told.rest, told.factors))

    def test_what_is_reduced(self):
        told = told_reduction(EXAMPLE, e("x + y"))
        self.assertEqual(told, Reduction(e("x + y"), ((), ())))
        self.assertEqual(told_reduction(tower(), e("t", ())), Reduction(e("t", ()), ()))

    def test_the_factors_lead_back(self):
        dice = dice_of(79)
        for degrees in SHAPES:
            for with_t in (False, True):
                for _ in range(3):
                    one, element = some_pair(dice, degrees, with_t)
                    told = told_reduction(one, element)
                    self.same(told.rest, reduced(one, element))
                    self.assertEqual(len(told.factors), len(degrees))
                    total = told.rest
                    for factor, equation in zip(told.factors, one.equations):
                        self.assertTrue(is_element(factor, len(degrees)))
                        total = element_plus(total, element_times(factor, widened(equation, len(degrees))))
                    self.same(total, element)
                    self.assertIsNone(reduction_fault(one, element, told.rest, list(told.factors)))

    def test_bottoms_of_the_factors(self):
        one = tower("x: x**2 - (1)/(t - 1)", "y: y**2 - (1)/(t)*x")
        element = e("y**6*x**3 + (1)/(t + 1)*x**5")
        told = told_reduction(one, element)
        for factor in told.factors:
            for _, quotient in factor:
                for number in (2, 3, 5, -2, -7):
                    quotient_at(quotient, (number, 1))
        self.assertIsNone(reduction_fault(one, element, told.rest, told.factors))


class FaultTest(Case):

    def setUp(self):
        self.element = e("y**3*x + x**3")
        self.told = told_reduction(EXAMPLE, self.element)

    def fault(self, rest, factors):
        return reduction_fault(EXAMPLE, self.element, rest, factors)

    def test_other_right_factors(self):
        first, second = self.told.factors
        for text in ("1", "x", "y**7 - 1/2*x", "t", "t**3*x - y"):
            factors = [element_plus(first, element_times(e(text), e("y**2 - 2*x"))),
                       element_minus(second, element_times(e(text), e("x**2 - 2")))]
            self.assertNotEqual(tuple(factors), self.told.factors)
            self.assertIsNone(self.fault(self.told.rest, factors))
            self.assertIsNone(self.fault(self.told.rest, tuple(factors)))

    def test_rest(self):
        self.assertEqual(self.fault(self.element, ((), ())), "rest")
        self.assertEqual(self.fault(e("y**2"), ()), "rest")
        self.assertEqual(self.fault(e("x**2"), (None, None)), "rest")
        self.assertEqual(self.fault(e("x*y + x**2*y"), self.told.factors), "rest")

    def test_many(self):
        first, second = self.told.factors
        for factors in ((), (first,), (first, second, ()), [first, second, ()], []):
            self.assertEqual(self.fault(self.told.rest, factors), "many")
            self.assertEqual(self.fault(e("x*y"), factors), "many")
        self.assertEqual(reduction_fault(tower(), e("t", ()), e("t", ()), [()]), "many")
        self.assertIsNone(reduction_fault(tower(), e("t", ()), e("t", ()), []))

    def test_sum(self):
        first, second = self.told.factors
        self.assertEqual(self.fault(e("x"), self.told.factors), "sum")
        self.assertEqual(self.fault(element_plus(self.told.rest, e("1")), self.told.factors), "sum")
        self.assertEqual(self.fault(self.told.rest, (second, first)), "sum")
        self.assertEqual(self.fault(self.told.rest, (first, element_plus(second, e("t")))), "sum")
        self.assertEqual(self.fault(self.told.rest, ((), ())), "sum")
        self.assertEqual(self.fault((), ((), ())), "sum")
        self.assertEqual(reduction_fault(tower(), e("t", ()), e("2*t", ()), []), "sum")

    def test_bottoms_that_stand_neither_in_the_tower_nor_in_the_element(self):
        first, second = self.told.factors
        more = e("(1)/(t + 1)")
        factors = (element_plus(first, element_times(more, e("y**2 - 2*x"))),
                   element_minus(second, element_times(more, e("x**2 - 2"))))
        self.assertEqual(self.fault(self.told.rest, factors), "sum")

    def test_bottoms_that_stand_in_the_tower_or_in_the_element(self):
        one = tower("x: x**2 - (1)/(t)", "y: y**2 - x")
        element = e("y**2 + (1)/(t**2 - 1)")
        told = told_reduction(one, element)
        for text, what in (("(1)/(t)", None), ("(1)/(t**3*t - t**2)", None), ("(1)/(t + 1)*x", None),
                           ("(1)/(t**2 + 1)", "sum"), ("(1)/(t - 2)*y", "sum")):
            more = e(text)
            factors = (element_plus(told.factors[0], element_times(more, one.equations[1])),
                       element_minus(told.factors[1], element_times(more, widened(one.equations[0], 2))))
            self.assertEqual(reduction_fault(one, element, told.rest, factors), what)


class ReductionTest(Case):

    def test_keeps_what_it_is_given(self):
        factors = [(), e("x")]
        one = Reduction(e("x**9"), factors)
        factors.append(())
        self.assertEqual((one.rest, one.factors), (e("x**9"), ((), e("x"))))
        self.assertEqual(Reduction(factors=(), rest=()).factors, ())

    def test_equality(self):
        one = Reduction(e("x"), [e("y")])
        self.assertTrue(one == Reduction(e("x"), (e("y"),)))
        for other in (Reduction(e("y"), [e("y")]), Reduction(e("x"), [e("x")]), Reduction(e("x"), []),
                      Reduction((), [e("y")])):
            self.assertFalse(one == other)
            self.assertTrue(one != other)


class ReckoningTest(Case):

    def test_followed_by_hand(self):
        self.same(tower_times(EXAMPLE, e("x + 1"), e("x - 1")), e("1"))
        self.same(tower_plus(EXAMPLE, e("x**2"), e("y")), e("y + 2"))
        self.same(tower_minus(EXAMPLE, e("y**2"), e("x")), e("x"))
        self.same(tower_power(EXAMPLE, e("y"), 3), e("2*x*y"))
        self.same(tower_power(EXAMPLE, e("y"), 8), e("64"))
        self.same(tower_power(EXAMPLE, e("x**2"), 1), e("2"))

    def test_of_elements_that_are_not_reduced(self):
        dice = dice_of(83)
        for degrees in SHAPES:
            one, left = some_pair(dice, degrees, True)
            right = some_element(dice, len(degrees), power=4)
            self.same(tower_plus(one, left, right), reduced(one, element_plus(left, right)))
            self.same(tower_minus(one, left, right), reduced(one, element_minus(left, right)))
            self.same(tower_times(one, left, right), reduced(one, element_times(left, right)))
            self.same(tower_power(one, left, 2), tower_times(one, left, left))
            self.same(tower_power(one, left, 3), tower_times(one, left, tower_times(one, left, left)))
            self.same(tower_power(one, left, 1), reduced(one, left))

    def test_power_0_is_1(self):
        for one in ((), e("x"), e("y**2 - 2*x")):
            self.same(tower_power(EXAMPLE, one, 0), e("1"))
        self.same(tower_power(tower(), (), 0), e("1", ()))
        self.same(tower_power(EXAMPLE, (), 4), ())

    def test_letters(self):
        self.same(tower_letter(EXAMPLE, 0), e("x"))
        self.same(tower_letter(EXAMPLE, 1), e("y"))
        one = tower("x: x - 3", "y: y**2 - 2", "z: z - t*y")
        self.same(tower_letter(one, 0), e("3", THREE))
        self.same(tower_letter(one, 1), e("y", THREE))
        self.same(tower_letter(one, 2), e("t*y", THREE))

    def test_constants(self):
        self.same(tower_constant(EXAMPLE, q("1/2*t")), e("1/2*t"))
        self.same(tower_constant(EXAMPLE, QUOTIENT_ZERO), ())
        self.same(tower_constant(tower(), QUOTIENT_ONE), e("1", ()))

    def test_is_same(self):
        self.assertIs(is_same(EXAMPLE, e("y**4"), e("8")), True)
        self.assertIs(is_same(EXAMPLE, e("x**3"), e("y**2")), True)
        self.assertIs(is_same(EXAMPLE, e("x"), e("-x")), False)
        self.assertIs(is_same(EXAMPLE, (), e("x**2 - 2")), True)
        self.assertIs(is_same(EXAMPLE, (), ()), True)
        self.assertIs(is_same(EXAMPLE, (), e("t")), False)
        self.assertIs(is_same(tower("x: x**2"), e("x", "x"), ()), False)

    def test_as_quotient(self):
        self.same(as_quotient(EXAMPLE, e("y**4 - t")), q("8 - t"))
        self.same(as_quotient(EXAMPLE, ()), QUOTIENT_ZERO)
        self.same(as_quotient(EXAMPLE, e("x**2 - 2")), QUOTIENT_ZERO)
        self.same(as_quotient(tower(), e("(1)/(t)", ())), q("(1)/(t)"))
        self.same(as_quotient(tower(), ()), QUOTIENT_ZERO)
        for text in ("x", "y", "x*y", "x + 1", "y**3", "x**3 + 5"):
            self.assertIsNone(as_quotient(EXAMPLE, e(text)))


class TablesTest(Case):

    def test_the_example(self):
        self.same(basis_of(EXAMPLE), ((0, 0), (1, 0), (0, 1), (1, 1)))
        rows = ((0, 1, 0, 0), (2, 0, 0, 0), (0, 0, 0, 1), (0, 0, 2, 0))
        self.same(multiply_table(EXAMPLE, e("x")), tuple(tuple(q(str(number)) for number in row) for row in rows))
        rows = ((0, 0, 1, 0), (0, 0, 0, 1), (0, 2, 0, 0), (4, 0, 0, 0))
        self.same(multiply_table(EXAMPLE, e("y")), tuple(tuple(q(str(number)) for number in row) for row in rows))

    def test_the_order_of_the_basis(self):
        one = tower("x: x**2 - 2", "y: y - x", "z: z**3 - x")
        self.same(basis_of(one), ((0, 0, 0), (1, 0, 0), (0, 0, 1), (1, 0, 1), (0, 0, 2), (1, 0, 2)))
        for degrees in SHAPES:
            basis = basis_of(some_tower(dice_of(89), degrees))
            self.assertTrue(is_element(tuple((exponents, QUOTIENT_ONE) for exponents in basis), len(degrees)))

    def test_a_tower_of_no_letter(self):
        self.same(basis_of(tower()), ((),))
        self.same(coordinates_of(tower(), e("t", ())), (q("t"),))
        self.same(coordinates_of(tower(), ()), (QUOTIENT_ZERO,))
        self.same(combined_element(tower(), [q("t")]), e("t", ()))
        self.same(combined_element(tower(), [QUOTIENT_ZERO]), ())
        self.same(multiply_table(tower(), e("t", ())), ((q("t"),),))
        self.same(multiply_table(tower(), ()), ((QUOTIENT_ZERO,),))

    def test_coordinates(self):
        self.same(coordinates_of(EXAMPLE, e("x*y - 1/2*t + y**2*x")), (q("4 - 1/2*t"), q("0"), q("0"), q("1")))
        self.same(coordinates_of(EXAMPLE, ()), (QUOTIENT_ZERO,) * 4)
        self.same(combined_element(EXAMPLE, (q("1"), q("0"), q("t"), q("-1/2"))), e("1 + t*y - 1/2*x*y"))
        self.same(combined_element(EXAMPLE, [QUOTIENT_ZERO] * 4), ())

    def test_coordinates_there_and_back(self):
        dice = dice_of(97)
        for degrees in SHAPES:
            one, element = some_pair(dice, degrees, True)
            found = coordinates_of(one, element)
            self.assertEqual(len(found), one.count)
            self.assertTrue(all(is_quotient(quotient) for quotient in found))
            self.same(combined_element(one, found), reduced(one, element))
            row = [some_quotient(dice) for _ in range(one.count)]
            self.same(coordinates_of(one, combined_element(one, row)), tuple(row))

    def test_rows_of_a_table(self):
        dice = dice_of(101)
        for degrees in SHAPES:
            one, element = some_pair(dice, degrees, True)
            table = multiply_table(one, element)
            self.assertEqual([len(row) for row in table], [one.count] * one.count)
            for exponents, row in zip(basis_of(one), table):
                product = tower_times(one, element, ((exponents, QUOTIENT_ONE),))
                self.same(row, coordinates_of(one, product))

    def test_tables_of_sums_and_products(self):
        dice = dice_of(103)
        for degrees in ((2,), (2, 2), (3, 1)):
            one, left = some_pair(dice, degrees, False)
            right = some_element(dice, len(degrees), with_t=False)
            first, second = multiply_table(one, left), multiply_table(one, right)
            self.same(multiply_table(one, element_plus(left, right)), table_plus(first, second))
            self.same(multiply_table(one, element_times(left, right)), table_times(first, second))

    def test_the_table_of_a_letter_fulfils_its_equation(self):
        one = tower("x: x**2 - t*x - 1/2", "y: y**3 - x*y + (1)/(t)")
        size = one.count
        for place, equation in enumerate(one.equations):
            total = ((QUOTIENT_ZERO,) * size,) * size
            for exponents, quotient in equation:
                term = tuple(tuple(quotient if i == k else QUOTIENT_ZERO for k in range(size)) for i in range(size))
                for number, power in enumerate(exponents):
                    for _ in range(power):
                        term = table_times(term, multiply_table(one, letter_element(number, 2)))
                total = table_plus(total, term)
            self.same(total, ((QUOTIENT_ZERO,) * size,) * size)
            self.assertTrue(element_has_t(equation), place)


def table_plus(one, other):
    """Return the sum of two tables."""
    return tuple(tuple(quotient_plus(left, right) for left, right in zip(row, more)) for row, more in zip(one, other))


def table_times(one, other):
    """Return the product of two tables."""
    rows = []
    for row in one:
        sums = [QUOTIENT_ZERO] * len(row)
        for factor, more in zip(row, other):
            sums = [quotient_plus(total, quotient_times(factor, entry)) for total, entry in zip(sums, more)]
        rows.append(tuple(sums))
    return tuple(rows)


if __name__ == "__main__":
    unittest.main()
