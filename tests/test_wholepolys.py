"""Polys with whole numbers: what [1.4] and [1.5] lean on."""

import unittest

from neverfactored.wholepolys import (
    cleared, packed, unpacked, whole_common, whole_over, whole_times, width_of, without_factor)
from tests.support import dice_of


def some_list(dice, degree, bits):
    """Return a list by dice whose last number is not 0."""
    numbers = [dice.randint(-2 ** bits, 2 ** bits) if dice.random() < 0.8 else 0 for _ in range(degree)]
    return numbers + [dice.choice((-1, 1)) * dice.randint(1, 2 ** bits)]


def product(one, other):
    """Return the product, reckoned number by number."""
    sums = [0] * (len(one) + len(other) - 1)
    for place, number in enumerate(one):
        for step, factor in enumerate(other):
            sums[place + step] += number * factor
    return sums


class WholePolysTest(unittest.TestCase):

    def test_cleared(self):
        self.assertEqual(cleared(((1, 2), (-2, 3), (0, 1), (5, 1))), ([3, -4, 0, 30], 6))
        self.assertEqual(cleared(((4, 1), (2, 1))), ([4, 2], 1))
        self.assertEqual(cleared(()), ([], 1))

    def test_packed(self):
        self.assertEqual(packed([3, -1, 2], 8), 3 - 256 + 2 * 65536)
        self.assertEqual(packed([], 8), 0)
        self.assertEqual(unpacked(3 - 256 + 2 * 65536, 8), [3, -1, 2])
        self.assertEqual(unpacked(0, 8), [])
        self.assertEqual(unpacked(packed([-128, 127, 0, -128], 8), 8), [-128, 127, 0, -128])
        self.assertEqual(width_of([3, -4, 0]), 3)

    def test_times(self):
        self.assertEqual(whole_times([1, 2], [3, 0, -1]), [3, 6, -1, -2])
        self.assertEqual(whole_times([5], [3]), [15])

    def test_times_of_long_ones(self):
        dice = dice_of(601)
        for _ in range(60):
            one, other = some_list(dice, dice.randint(4, 12), 40), some_list(dice, dice.randint(4, 12), 3)
            self.assertEqual(whole_times(one, other), product(one, other))

    def test_without_factor(self):
        self.assertEqual(without_factor([6, 0, -9]), [2, 0, -3])
        self.assertEqual(without_factor([6, 5]), [6, 5])
        self.assertEqual(without_factor([]), [])

    def test_over(self):
        self.assertEqual(whole_over([-1, 0, 1], [1, 1]), [-1, 1])
        self.assertEqual(whole_over([-1, 0, 1], [-1, 0, 1]), [1])
        self.assertEqual(whole_over([], [1, 1]), [])
        self.assertIsNone(whole_over([1, 0, 1], [1, 1]))
        self.assertIsNone(whole_over([1], [1, 1]))
        self.assertIsNone(whole_over([1, 1], [2]))
        self.assertIsNone(whole_over([1, 1], [-2 ** 40, 1]))

    def test_over_of_products(self):
        dice = dice_of(607)
        for _ in range(60):
            one, other = some_list(dice, dice.randint(0, 9), 20), some_list(dice, dice.randint(0, 9), 5)
            whole = product(one, other)
            self.assertEqual(whole_over(whole, other), one)
            whole[0] += 1
            found = whole_over(whole, other)
            self.assertTrue(found is None or product(found, other) == whole)

    def test_common(self):
        self.assertIn(whole_common([-1, 0, 1], [1, 1]), ([1, 1], [-1, -1]))
        self.assertEqual(len(whole_common([1, 0, 1], [1, 1])), 1)
        self.assertIn(whole_common([0, 0, 1], [0, 1, 1]), ([0, 1], [0, -1]))

    def test_common_of_products(self):
        dice = dice_of(613)
        for _ in range(60):
            shared = without_factor(some_list(dice, dice.randint(0, 5), 12))
            # Two lists that differ by 1 have no divisor of degree 1 or more in common.
            one = some_list(dice, dice.randint(1, 5), 30)
            other = [one[0] + 1] + one[1:]
            found = whole_common(without_factor(product(shared, one)), without_factor(product(shared, other)))
            self.assertIn(found, (shared, [-number for number in shared]))

    def test_what_hides_a_divisor_at_first(self):
        # The values where the letter is a power of two have great powers of two in common.
        for power in (20, 60, 200, 900):
            left, right = product([1, 1], [2 ** power, 1]), product([1, 1], [2 ** (power + 1), 3])
            self.assertIn(whole_common(left, right), ([1, 1], [-1, -1]))
            self.assertEqual(len(whole_common([2 ** power, 1], [0, 1])), 1)


if __name__ == "__main__":
    unittest.main()
