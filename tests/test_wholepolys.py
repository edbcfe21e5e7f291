"""Common divisors without ratios: what [1.4] and [1.5] lean on."""

import unittest

from neverfactored.wholepolys import (
    PRIME, cleared, rest_modulo, surely_coprime, whole_common, whole_rest, whole_times, without_factor)


class WholePolysTest(unittest.TestCase):

    def test_cleared(self):
        self.assertEqual(cleared(((1, 2), (-2, 3), (0, 1), (5, 1))), ([3, -4, 0, 30], 6))
        self.assertEqual(cleared(((4, 1), (2, 1))), ([4, 2], 1))
        self.assertEqual(cleared(()), ([], 1))

    def test_times(self):
        self.assertEqual(whole_times([1, 2], [3, 0, -1]), [3, 6, -1, -2])
        self.assertEqual(whole_times([5], [3]), [15])

    def test_without_factor(self):
        self.assertEqual(without_factor([6, 0, -9]), [2, 0, -3])
        self.assertEqual(without_factor([6, 5]), [6, 5])
        self.assertEqual(without_factor([]), [])

    def test_rest(self):
        self.assertEqual(whole_rest([-1, 0, 1], [1, 1]), [])
        self.assertEqual(without_factor(whole_rest([1, 0, 1], [1, 2])), [1])
        self.assertEqual(whole_rest([7], [1, 2]), [7])

    def test_rest_modulo(self):
        self.assertEqual(rest_modulo([PRIME - 1, 0, 1], [1, 1]), [])
        self.assertEqual(rest_modulo([1, 0, 1], [1, 1]), [2])

    def test_common(self):
        self.assertIn(whole_common([-2, 0, 2], [3, 3]), ([1, 1], [-1, -1], [3, 3]))
        self.assertEqual(len(whole_common([1, 0, 1], [1, 1])), 1)

    def test_surely_coprime(self):
        self.assertIs(surely_coprime([1, 0, 1], [1, 1]), True)
        self.assertIs(surely_coprime([1, 1], [1, 0, 1]), True)
        self.assertIs(surely_coprime([-2, 0, 0, 1], [-2, 0, 1]), True)
        self.assertIs(surely_coprime([-1, 0, 1], [1, 1]), False)
        self.assertIs(surely_coprime([2, 0, 1], [2, 0, 1]), False)

    def test_nothing_is_decided_where_the_prime_hides_something(self):
        self.assertIs(surely_coprime([0, 1], [PRIME, 1]), False)
        self.assertIs(surely_coprime([1, PRIME], [2, PRIME]), False)
        self.assertIs(surely_coprime([1, PRIME], [2, 1]), False)
        self.assertIs(surely_coprime([2, 1], [1, PRIME]), False)


if __name__ == "__main__":
    unittest.main()
