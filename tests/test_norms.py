"""Determinants and linear equations over quotients, norms and inverses: what [3.4] and [3.6] lean on."""

import itertools
import unittest

from neverfactored.matrices import determinant, solved, surely_regular
from neverfactored.norms import inverse_of, is_unit, norm_of, surely_unit
from neverfactored.quotients import (
    QUOTIENT_ONE, QUOTIENT_ZERO, quotient_minus, quotient_plus, quotient_times)
from neverfactored.reducing import reduced, tower_times
from tests.support import Case, dice_of, e, q, some_element, some_quotient, some_tower, tower

TWO = tower("x: x**2 - 2")


def by_permutations(table):
    """Return the determinant as the sum over all permutations."""
    total = QUOTIENT_ZERO
    for order in itertools.permutations(range(len(table))):
        product = QUOTIENT_ONE
        for row, column in enumerate(order):
            product = quotient_times(product, table[row][column])
        swaps = sum(order[place] > later for place in range(len(order)) for later in order[place + 1:])
        total = quotient_minus(total, product) if swaps % 2 else quotient_plus(total, product)
    return total


def some_table(dice, size, with_t):
    """Return a table of quotients by dice, with noughts in it."""
    return [[some_quotient(dice, with_t) if dice.random() < 0.7 else QUOTIENT_ZERO for _ in range(size)]
            for _ in range(size)]


class MatricesTest(Case):

    def test_determinant(self):
        self.same(determinant([]), QUOTIENT_ONE)
        self.same(determinant([[q("3")]]), q("3"))
        self.same(determinant([[q("0"), q("t")], [q("1/2"), q("5")]]), q("-1/2*t"))
        dice = dice_of(313)
        for turn in range(60):
            table = some_table(dice, dice.randint(1, 4), turn % 2 == 0)
            self.same(determinant(table), by_permutations(table))

    def test_solved(self):
        dice = dice_of(317)
        for turn in range(60):
            size = dice.randint(1, 4)
            table = some_table(dice, size, turn % 2 == 0)
            right = [some_quotient(dice, turn % 2 == 0) for _ in range(size)]
            found = solved(table, right)
            self.assertEqual(found is None, determinant(table) == QUOTIENT_ZERO)
            for column in range(size if found is not None else 0):
                total = QUOTIENT_ZERO
                for factor, row in zip(found, table):
                    total = quotient_plus(total, quotient_times(factor, row[column]))
                self.same(total, right[column])

    def test_surely_regular(self):
        dice = dice_of(331)
        for turn in range(60):
            table = some_table(dice, dice.randint(1, 4), turn % 2 == 0)
            self.assertEqual(surely_regular(table), determinant(table) != QUOTIENT_ZERO)
        # What is 0 modulo the prime decides nothing.
        self.assertIs(surely_regular([[q("2305843009213693951")]]), False)


class NormsTest(Case):

    def test_norm(self):
        self.same(norm_of(TWO.equations, e("x + 1", "x")), q("-1"))
        self.same(norm_of(TWO.equations, e("x", "x")), q("-2"))
        self.same(norm_of((), e("t", ())), q("t"))
        self.same(norm_of(tower("x: x**2 - t").equations, e("x - 3", "x")), q("9 - t"))

    def test_units_of_towers_that_need_not_be_plain(self):
        one = tower("x: x**2", "y: y**2 - 2*y + 1")
        for text, told in (("x", False), ("y", True), ("x + y", True), ("x*y", False), ("y - 1", False), ("2", True),
                           ("0", False)):
            self.assertEqual(is_unit(one.equations, e(text)), told, text)
            self.assertEqual(surely_unit(one.equations, e(text)), told, text)
            self.assertEqual(inverse_of(one, e(text)) is not None, told, text)

    def test_great_numbers(self):
        number = e("2305843009213693951", "x")
        self.assertIs(is_unit(TWO.equations, number), True)
        self.assertIs(surely_unit(TWO.equations, number), True)
        self.assertIs(is_unit(TWO.equations, e("2305843009213693951*x", "x")), True)

    def test_inverses_by_dice(self):
        dice = dice_of(337)
        for turn in range(30):
            one = some_tower(dice, ((2,), (3, 2), (2, 2, 2), (1, 4))[turn % 4], with_t=turn % 3 == 0)
            element = reduced(one, some_element(dice, len(one.letters), with_t=turn % 3 == 0))
            found = inverse_of(one, element)
            self.assertEqual(found is not None, is_unit(one.equations, element))
            if found is not None:
                self.same(tower_times(one, found, element), reduced(one, e("1", one.letters)))


if __name__ == "__main__":
    unittest.main()
