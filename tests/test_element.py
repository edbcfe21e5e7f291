"""[1.6] to [1.10]: letters and elements."""

import unittest
from fractions import Fraction

from neverfactored.element import (
    coefficients_of, constant_element, element_at, element_degree, element_has_t, element_minus, element_negative,
    element_plus, element_power, element_scaled, element_set_t, element_times, from_coefficients, is_element,
    is_letter, letter_element, make_element, widened)
from neverfactored.errors import BadElement, Pole
from neverfactored.quotients import QUOTIENT_ONE, QUOTIENT_ZERO
from tests.support import ODD_THINGS, Case, dice_of, e, q, some_element, some_quotient, some_ratio

# The example of [1.7]: x**2 - 1/2*t + 3*y over x, y.
EXAMPLE = (((0, 0), (((0, 1), (-1, 2)), ((1, 1),))), ((2, 0), (((1, 1),), ((1, 1),))), ((0, 1), (((3, 1),), ((1, 1),))))
T = (((0, 1), (1, 1)), ((1, 1),))
HALF = (((1, 2),), ((1, 1),))


def value(element, letters, t):
    """Return the value of an element, reckoned apart from the package, or None at a pole."""
    total = Fraction(0)
    for exponents, quotient in element:
        top, bottom = (sum((Fraction(*ratio) * t ** power for power, ratio in enumerate(poly)), Fraction(0))
                       for poly in quotient)
        if bottom == 0:
            return None
        term = top / bottom
        for power, letter in zip(exponents, letters):
            term *= letter ** power
        total += term
    return total


class LetterTest(Case):

    def test_one_small_letter(self):
        for letter in "abcdefghijklmnopqrsuvwxyz":
            self.assertIs(is_letter(letter), True)
        self.assertIs(is_letter("t"), False)

    def test_with_a_digit(self):
        for letter in "abcdefghijklmnopqrstuvwxyz":
            for digit in "123456789":
                self.assertIs(is_letter(letter + digit), True)
            self.assertIs(is_letter(letter + "0"), False)

    def test_other_texts(self):
        for text in ("", "X", "T", "T1", "X1", "xy", "x12", "1x", "1", "11", "x ", " x", "x\n", "\u00e9", "x\u00b2",
                     "x\u0661", "\u00b5", "_", "x_", "tt", "abc", "a1b", "{", "`", "x:", "x/"):
            self.assertIs(is_letter(text), False, text)

    def test_things_that_are_no_text(self):
        for thing in (None, True, 1, 1.0, b"x", ["x"], ("x",), {"x": 1}, {"x"}, object(), str, [], ("x", "1")):
            self.assertIs(is_letter(thing), False, thing)


class KindTest(Case):

    def test_the_example(self):
        self.assertIs(is_element(EXAMPLE, 2), True)
        self.assertEqual(EXAMPLE, e("x**2 - 1/2*t + 3*y"))
        self.same(make_element(EXAMPLE[::-1], 2), EXAMPLE)

    def test_nought_and_constants(self):
        for many in range(5):
            self.assertIs(is_element((), many), True)
            self.assertIs(is_element((((0,) * many, QUOTIENT_ONE),), many), True)
        self.assertIs(is_element((((), T),), 0), True)

    def test_the_number_of_letters(self):
        for many in (0, 1, 3, 4):
            self.assertIs(is_element(EXAMPLE, many), False)
        self.assertIs(is_element((((), T), ((), T)), 0), False)

    def test_the_order_is_read_from_the_last_letter(self):
        right = [(0, 0), (1, 0), (2, 0), (0, 1), (1, 1), (0, 2)]
        element = tuple((exponents, QUOTIENT_ONE) for exponents in right)
        self.assertIs(is_element(element, 2), True)
        self.assertIs(is_element(tuple(sorted(element)), 2), False)
        self.assertIs(is_element(element[::-1], 2), False)
        for place in range(5):
            self.assertIs(is_element(element[:place] + (element[place + 1], element[place]) + element[place + 2:], 2),
                          False)

    def test_exponents_that_stand_twice(self):
        self.assertIs(is_element((((1, 0), QUOTIENT_ONE), ((1, 0), QUOTIENT_ONE)), 2), False)
        self.assertIs(is_element((((1, 0), QUOTIENT_ONE), ((1, 0), T)), 2), False)

    def test_quotients_that_are_0_or_none(self):
        for quotient in (QUOTIENT_ZERO, (1, 1), 1, None, ((), ()), [((1, 1),), ((1, 1),)], (((1, 1),), ((2, 1),))):
            self.assertIs(is_element((((1,), quotient),), 1), False)

    def test_exponents_that_are_none(self):
        for exponents in ((-1,), (True,), (False,), (1.0,), ("1",), [1], 1, "1", (None,), ()):
            self.assertIs(is_element(((exponents, QUOTIENT_ONE),), 1), False, exponents)

    def test_couples_that_are_none(self):
        for couple in ([(1,), QUOTIENT_ONE], ((1,),), ((1,), QUOTIENT_ONE, QUOTIENT_ONE), None, (), "ab", 5):
            self.assertIs(is_element((couple,), 1), False, couple)

    def test_things_of_other_kinds(self):
        for thing in ODD_THINGS + ([((1,), QUOTIENT_ONE)], list(EXAMPLE), dict(EXAMPLE), EXAMPLE[0]):
            self.assertIs(is_element(thing, 2), thing == (), thing)

    def test_exponents_of_any_size(self):
        self.assertIs(is_element((((10 ** 12, 0), QUOTIENT_ONE), ((0, 10 ** 40), QUOTIENT_ONE)), 2), True)


class MakingTest(Case):

    def test_any_order(self):
        rows = [((0, 1), HALF), ((0, 0), T), ((3, 0), QUOTIENT_ONE)]
        told = (((0, 0), T), ((3, 0), QUOTIENT_ONE), ((0, 1), HALF))
        for order in ((0, 1, 2), (0, 2, 1), (1, 0, 2), (1, 2, 0), (2, 0, 1), (2, 1, 0)):
            self.same(make_element([rows[k] for k in order], 2), told)

    def test_like_exponents_are_added(self):
        self.same(make_element([((1,), HALF), ((0,), T), ((1,), HALF)], 1), (((0,), T), ((1,), QUOTIENT_ONE)))

    def test_noughts_are_dropped(self):
        self.same(make_element([((1,), QUOTIENT_ZERO)], 1), ())
        self.same(make_element([((1,), T), ((2,), HALF), ((1,), q("-t"))], 1), (((2,), HALF),))
        self.same(make_element([], 3), ())
        self.same(make_element((), 0), ())

    def test_rows_may_be_lists(self):
        rows = [[(1,), HALF]]
        element = make_element(rows, 1)
        rows[0][0] = (7,)
        self.same(element, (((1,), HALF),))

    def test_over_no_letter(self):
        self.same(make_element([((), HALF), ((), HALF)], 0), (((), QUOTIENT_ONE),))
        self.same(make_element([((), HALF), ((), q("-1/2"))], 0), ())
        self.refused(BadElement, {"index": 1}, make_element, [((), HALF), ((0,), HALF)], 0)

    def test_the_first_wrong_row_is_told(self):
        good = ((1, 0), HALF)
        wrong = ((1,), HALF), ((1, 0, 0), HALF), ([1, 0], HALF), ((1, -1), HALF), ((1, True), HALF), \
            ((1, 0), (1, 1)), ((1, 0), 1), ((1, 0), None), ((1, 0), [((1, 1),), ((1, 1),)]), ((1, 0),), \
            ((1, 0), HALF, HALF), (), [], None, 5, "ab", {(1, 0): HALF}, {(1, 0), HALF}, ((), HALF), (HALF, (1, 0))
        for row in wrong:
            self.refused(BadElement, {"index": 0}, make_element, [row], 2)
            self.refused(BadElement, {"index": 2}, make_element, [good, good, row, None], 2)
            self.refused(BadElement, {"index": 1}, make_element, (good, row), 2)


class ReckoningTest(Case):

    def test_constants_and_letters(self):
        self.same(constant_element(HALF, 2), (((0, 0), HALF),))
        self.same(constant_element(HALF, 0), (((), HALF),))
        self.same(constant_element(QUOTIENT_ZERO, 2), ())
        self.same(letter_element(0, 1), (((1,), QUOTIENT_ONE),))
        self.same(letter_element(0, 3), (((1, 0, 0), QUOTIENT_ONE),))
        self.same(letter_element(2, 3), (((0, 0, 1), QUOTIENT_ONE),))

    def test_followed_by_hand(self):
        self.same(element_plus(e("x + y"), e("x - y + 1")), e("2*x + 1"))
        self.same(element_plus(e("x"), e("-x")), ())
        self.same(element_plus(e("y"), e("x")), e("x + y"))
        self.same(element_minus(e("x + y"), e("x - y + 1")), e("2*y - 1"))
        self.same(element_minus(e("x"), e("x")), ())
        self.same(element_negative(e("x - 1/2*t")), e("-x + 1/2*t"))
        self.same(element_times(e("x + y"), e("x - y")), e("x**2 - y**2"))
        self.same(element_times(e("(1)/(t)*x"), e("t*y")), e("x*y"))
        self.same(element_scaled(e("x - t"), q("(1)/(t)")), e("(1)/(t)*x - 1"))
        self.same(element_power(e("x + t"), 2, 2), e("x**2 + 2*x*t + t**2"))
        self.same(element_power(e("x + 1"), 1, 2), e("x + 1"))

    def test_nothing_is_reduced(self):
        self.same(element_times(e("x**40"), e("x**60*y")), e("x**50*x**50*y"))

    def test_with_nought(self):
        one = e("x - 1/2*t")
        self.same(element_plus(one, ()), one)
        self.same(element_plus((), one), one)
        self.same(element_minus(one, ()), one)
        self.same(element_minus((), one), element_negative(one))
        self.same(element_negative(()), ())
        self.same(element_times(one, ()), ())
        self.same(element_times((), one), ())
        self.same(element_scaled(one, QUOTIENT_ZERO), ())
        self.same(element_scaled((), HALF), ())

    def test_power_0_is_1(self):
        self.same(element_power(e("x"), 0, 2), (((0, 0), QUOTIENT_ONE),))
        self.same(element_power((), 0, 2), (((0, 0), QUOTIENT_ONE),))
        self.same(element_power((), 0, 0), (((), QUOTIENT_ONE),))
        self.same(element_power((), 3, 2), ())

    def test_over_no_letter(self):
        one = constant_element(T, 0)
        self.same(element_plus(one, one), (((), q("2*t")),))
        self.same(element_times(one, one), (((), q("t**2")),))
        self.same(element_power(one, 3, 0), (((), q("t**3")),))

    def test_degree(self):
        one = e("x**3*y + x*y**5 - t**7")
        self.same(element_degree(one, 0), 3)
        self.same(element_degree(one, 1), 5)
        self.same(element_degree(e("7"), 0), 0)
        self.same(element_degree(e("x"), 1), 0)
        self.same(element_degree((), 0), -1)
        self.same(element_degree((), 1), -1)

    def test_against_values(self):
        dice = dice_of(43)
        t, letters = Fraction(2, 7), [Fraction(-3, 5), Fraction(4)]
        for _ in range(80):
            one, other, quotient = some_element(dice, 2), some_element(dice, 2), some_quotient(dice)
            left, right = value(one, letters, t), value(other, letters, t)
            factor = value(constant_element(quotient, 0), (), t)
            found = [element_plus(one, other), element_minus(one, other), element_times(one, other),
                     element_negative(one), element_scaled(one, quotient), element_power(one, 3, 2)]
            self.assertTrue(all(is_element(element, 2) for element in found))
            self.assertEqual([value(element, letters, t) for element in found],
                             [left + right, left - right, left * right, -left, left * factor, left ** 3])


class LettersLessAndMoreTest(Case):

    def test_coefficients(self):
        self.same(coefficients_of(e("x**2*y**3 - t*y**3 + x*y + 1")),
                  (e("1", "x"), e("x", "x"), (), e("x**2 - t", "x")))
        self.same(coefficients_of(e("x**2")), (e("x**2", "x"),))
        self.same(coefficients_of(e("y")), ((), e("1", "x")))
        self.same(coefficients_of(()), ())
        self.same(coefficients_of(e("x**2 - t", "x")), ((((), q("-t")),), (), (((), QUOTIENT_ONE),)))

    def test_the_way_back(self):
        self.same(from_coefficients([(), e("x - t", "x"), ()]), e("x*y - t*y"))
        self.same(from_coefficients([e("x", "x"), (), e("1", "x"), (), ()]), e("x + y**2"))
        self.same(from_coefficients([]), ())
        self.same(from_coefficients([(), ()]), ())
        self.same(from_coefficients((constant_element(T, 0),)), (((0,), T),))

    def test_there_and_back(self):
        dice = dice_of(47)
        for many in (1, 2, 3):
            for _ in range(40):
                one = some_element(dice, many, terms=6)
                rows = coefficients_of(one)
                self.assertTrue(all(is_element(row, many - 1) for row in rows))
                self.assertTrue(not rows or rows[-1] != ())
                self.assertEqual(len(rows), element_degree(one, many - 1) + 1)
                self.same(from_coefficients(rows), one)
                self.same(from_coefficients(list(rows) + [()]), one)

    def test_widened(self):
        self.same(widened(e("x**2 - t", "x"), 3), e("x**2 - t", "xyz"))
        self.same(widened(e("x**2*y"), 2), e("x**2*y"))
        self.same(widened((), 3), ())
        self.same(widened(constant_element(T, 0), 2), (((0, 0), T),))


class NumbersTest(Case):

    def test_values(self):
        one = e("x**2*y - 1/2*t + 3")
        self.same(element_at(one, [(1, 2), (4, 1)]), (4, 1))
        self.same(element_at(one, ((1, 2), (4, 1), (0, 1))), (4, 1))
        self.same(element_at(one, [(1, 2), (4, 1), (2, 1)]), (3, 1))
        self.same(element_at((), [(1, 2), (4, 1)]), (0, 1))
        self.same(element_at((), [(1, 2), (4, 1), (0, 1)]), (0, 1))
        self.same(element_at(e("x - y"), [(1, 2), (1, 2)]), (0, 1))
        self.same(element_at(constant_element(T, 0), []), (0, 1))
        self.same(element_at(constant_element(T, 0), [(5, 3)]), (5, 3))

    def test_power_0_of_0(self):
        self.same(element_at(e("y + 5"), [(0, 1), (0, 1)]), (5, 1))

    def test_against_values(self):
        dice = dice_of(53)
        for _ in range(120):
            one, numbers = some_element(dice, 2), [some_ratio(dice) for _ in range(3)]
            told = value(one, [Fraction(*ratio) for ratio in numbers[:2]], Fraction(*numbers[2]))
            if told is None:
                self.refused(Pole, {"at": numbers[2]}, element_at, one, numbers)
                self.refused(Pole, {"at": numbers[2]}, element_set_t, one, numbers[2])
            else:
                self.same(element_at(one, numbers), (told.numerator, told.denominator))
                found = element_set_t(one, numbers[2])
                self.assertTrue(is_element(found, 2))
                self.assertIs(element_has_t(found), False)
                self.same(element_at(found, numbers[:2]), (told.numerator, told.denominator))

    def test_poles(self):
        one = e("(1)/(t - 2)*x + y")
        self.refused(Pole, {"at": (2, 1)}, element_at, one, [(1, 1), (1, 1), (2, 1)])
        self.refused(Pole, {"at": (2, 1)}, element_set_t, one, (2, 1))
        self.refused(Pole, {"at": (0, 1)}, element_at, e("(1)/(t)*x"), [(1, 1), (1, 1)])

    def test_poles_where_the_letters_are_0(self):
        self.refused(Pole, {"at": (2, 1)}, element_at, e("(1)/(t - 2)*x + y"), [(0, 1), (0, 1), (2, 1)])
        self.refused(Pole, {"at": (0, 1)}, element_at, e("(1)/(t)*x"), [(0, 1), (0, 1)])

    def test_t_set(self):
        self.same(element_set_t(e("t*x - y + (1)/(t)"), (2, 1)), e("2*x - y + 1/2"))
        self.same(element_set_t(e("t*x - x + y"), (1, 1)), e("y"))
        self.same(element_set_t(e("t*x - 2*x"), (2, 1)), ())
        self.same(element_set_t((), (2, 1)), ())
        self.same(element_set_t(e("x - y"), (2, 1)), e("x - y"))

    def test_has_t(self):
        for text in ("t", "x + t*y", "(1)/(t)*x", "x + y + (t)/(t + 1)"):
            self.assertIs(element_has_t(e(text)), True)
        for text in ("0", "x", "1/2*x*y - 7"):
            self.assertIs(element_has_t(e(text)), False)
        self.assertIs(element_has_t(e("t**2 - 2", ("t", "x"))), False)


if __name__ == "__main__":
    unittest.main()
