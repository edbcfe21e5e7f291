"""[3.1]: upper polys."""

import unittest

from neverfactored.errors import NotMonic
from neverfactored.reducing import reduced, tower_times
from neverfactored.uppers import trim_upper, upper_over, upper_slope, upper_times
from tests.support import Case, dice_of, e, some_element, some_tower, tower, u, upper_plus

ONE = tower("x: x**2 - 2")
EMPTY = tower()


def some_upper(dice, many, size=4):
    """Return an upper poly by dice, neither reduced nor trimmed."""
    return [some_element(dice, many, terms=3) for _ in range(dice.randint(0, size))]


class TrimTest(Case):

    def test_followed_by_hand(self):
        self.same(trim_upper(ONE, u("x**2", "x**3 - x", "x + t")), u("2", "x", "x + t"))
        self.same(trim_upper(ONE, list(u("x", "0", "x**2 - 2"))), u("x"))
        self.same(trim_upper(ONE, u("0", "x", "0", "0")), u("0", "x"))
        self.same(trim_upper(EMPTY, u("t", "0", letters=())), u("t", letters=()))

    def test_nought(self):
        self.same(trim_upper(ONE, ()), ())
        self.same(trim_upper(ONE, []), ())
        self.same(trim_upper(ONE, u("0", "0")), ())
        self.same(trim_upper(ONE, u("x**2 - 2", "x**4 - 4")), ())

    def test_nothing_that_is_passed_is_changed(self):
        rows = list(u("x**2", "x", "0"))
        trim_upper(ONE, rows)
        upper_times(ONE, rows, rows)
        upper_over(ONE, rows, u("x", "1"))
        upper_slope(ONE, rows)
        self.assertEqual(rows, list(u("x**2", "x", "0")))

    def test_some(self):
        dice = dice_of(127)
        for _ in range(40):
            one = some_tower(dice, (2, 2), with_t=True)
            rows = some_upper(dice, 2)
            found = trim_upper(one, rows)
            self.assertTrue(not found or found[-1] != ())
            for place, element in enumerate(rows):
                self.same(found[place] if place < len(found) else (), reduced(one, element))


class TimesTest(Case):

    def test_followed_by_hand(self):
        self.same(upper_times(ONE, u("x", "1"), u("-x", "1")), u("-2", "0", "1"))
        self.same(upper_times(ONE, u("x", "x"), u("x")), u("2", "2"))
        self.same(upper_times(EMPTY, u("1", "t", letters=()), u("t", "1", letters=())),
                  u("t", "1 + t**2", "t", letters=()))

    def test_products_that_lose_their_head(self):
        one = tower("x: x**2 - x")
        self.same(upper_times(one, u("1", "x"), u("1", "x - 1")), u("1", "2*x - 1"))
        self.same(upper_times(one, u("0", "x"), u("0", "x - 1")), ())

    def test_nought(self):
        self.same(upper_times(ONE, (), u("x", "1")), ())
        self.same(upper_times(ONE, u("x", "1"), []), ())
        self.same(upper_times(ONE, u("0", "x**2 - 2"), u("x", "1")), ())

    def test_against_the_entries(self):
        dice = dice_of(131)
        for _ in range(40):
            one = some_tower(dice, (2, 2), with_t=True)
            left, right = some_upper(dice, 2), some_upper(dice, 2)
            total = ()
            for place, element in enumerate(left):
                row = [()] * place + [tower_times(one, element, factor) for factor in right]
                total = upper_plus(one, total, row)
            self.same(upper_times(one, left, right), total)


class OverTest(Case):

    def test_followed_by_hand(self):
        self.same(upper_over(ONE, u("-2", "0", "1"), u("x", "1")), (u("-x", "1"), ()))
        self.same(upper_over(ONE, u("0", "0", "0", "1"), u("x", "0", "1")), (u("0", "1"), u("0", "-x")))
        self.same(upper_over(ONE, u("x", "5*x"), u("1")), (u("x", "5*x"), ()))
        self.same(upper_over(ONE, u("x", "1"), u("x", "0", "1")), ((), u("x", "1")))
        self.same(upper_over(ONE, (), u("x", "1")), ((), ()))
        self.same(upper_over(EMPTY, u("0", "0", "1", letters=()), u("-t", "1", letters=())),
                  (u("t", "1", letters=()), u("t**2", letters=())))

    def test_neither_trimmed_nor_reduced(self):
        self.same(upper_over(ONE, u("-2", "0", "1", "x**2 - 2"), u("x**3 - x", "x**2 - 1", "0")), (u("-x", "1"), ()))
        self.same(upper_over(ONE, u("x**2", "x**2", "x**2", "0"), list(u("0", "1", "x**2 - 2"))), (u("2", "2"), u("2")))

    def test_not_monic(self):
        for other in ((), u("0"), u("x", "2"), u("x", "x"), u("1", "t"), u("x**2 - 2"), u("1", "x", "0"), u("2"),
                      u("x"), u("1", "x**2"), u("1", "x + 1")):
            self.refused(NotMonic, {}, upper_over, ONE, u("x", "1", "1"), other)
            self.refused(NotMonic, {}, upper_over, ONE, (), list(other))

    def test_monic_when_reduced(self):
        self.same(upper_over(ONE, u("0", "1"), u("0", "x**2 - 1")), (u("1"), ()))
        self.same(upper_over(ONE, u("0", "1"), u("0", "1/2*x**2")), (u("1"), ()))

    def test_quotient_and_rest(self):
        dice = dice_of(137)
        for _ in range(40):
            one = some_tower(dice, (2, 2), with_t=True)
            left, right = some_upper(dice, 2, 6), some_upper(dice, 2, 3) + [e("1")]
            quotient, rest = upper_over(one, left, right)
            self.assertLess(len(rest), len(right))
            self.same(trim_upper(one, quotient), quotient)
            self.same(trim_upper(one, rest), rest)
            self.same(upper_plus(one, upper_times(one, quotient, right), rest), trim_upper(one, left))


class SlopeTest(Case):

    def test_followed_by_hand(self):
        self.same(upper_slope(ONE, u("5", "x", "x**2", "1/2*x")), u("x", "4", "3/2*x"))
        self.same(upper_slope(ONE, u("5", "x", "0")), u("x"))
        self.same(upper_slope(ONE, list(u("x", "1", "0", "1"))), u("1", "0", "3"))

    def test_nought(self):
        for upper in ((), u("x"), u("x", "x**2 - 2"), u("x", "0", "0")):
            self.same(upper_slope(ONE, upper), ())

    def test_of_a_product(self):
        dice = dice_of(139)
        for _ in range(20):
            one = some_tower(dice, (2, 2))
            left, right = some_upper(dice, 2), some_upper(dice, 2)
            told = upper_plus(one, upper_times(one, upper_slope(one, left), right),
                              upper_times(one, left, upper_slope(one, right)))
            self.same(upper_slope(one, upper_times(one, left, right)), told)


if __name__ == "__main__":
    unittest.main()
