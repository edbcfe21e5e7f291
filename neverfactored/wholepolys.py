"""Polys with whole numbers for coefficients: lists, powers ascending, the last number not 0.

Sums and remainders of ratios would be brought to lowest terms at every step; with whole numbers this is done once.
"""

from math import gcd, lcm

# A prime number; any large one would do.
PRIME = 2305843009213693951


def cleared(poly):
    """Return the couple (numbers, bottom) of the poly that is numbers / bottom, a bottom of 1 or more."""
    shared = 1
    for ratio in poly:
        shared = lcm(shared, ratio[1])
    return [top * (shared // bottom) for top, bottom in poly], shared


def whole_times(one, other):
    """Return the product of two such lists, none of them empty."""
    sums = [0 for _ in range(len(one) + len(other) - 1)]
    for place, number in enumerate(one):
        for step, factor in enumerate(other):
            sums[place + step] = sums[place + step] + number * factor
    return sums


def without_factor(numbers):
    """Return the numbers divided by their greatest common divisor."""
    shared = 0
    for number in numbers:
        shared = gcd(shared, number)
        if shared == 1:
            return list(numbers)
    return [number // shared for number in numbers]


def whole_rest(one, other):
    """Return the rest of one divided by other, times a number that is not 0; other is not empty."""
    rest = list(one)
    while len(rest) >= len(other):
        shared = gcd(rest[-1], other[-1])
        first = rest[-1] // shared
        lead = other[-1] // shared
        shift = len(rest) - len(other)
        rest = [lead * number for number in rest]
        for step, number in enumerate(other):
            rest[shift + step] = rest[shift + step] - first * number
        while rest and rest[-1] == 0:
            rest.pop()
    return rest


def whole_common(one, other):
    """Return a greatest common divisor of two such lists, without a common factor of its numbers."""
    while other:
        one, other = other, without_factor(whole_rest(one, other))
    return one


def rest_modulo(one, other):
    """Return the rest of one divided by other modulo the prime, times a number that is not 0."""
    rest = list(one)
    while len(rest) >= len(other):
        first = rest[-1]
        lead = other[-1]
        shift = len(rest) - len(other)
        rest = [lead * number % PRIME for number in rest]
        for step, number in enumerate(other):
            rest[shift + step] = (rest[shift + step] - first * number) % PRIME
        while rest and rest[-1] == 0:
            rest.pop()
    return rest


def surely_coprime(one, other):
    """Return True only if one and other have no common divisor of degree 1 or more.

    Modulo a prime that divides neither of the last numbers a common divisor keeps its degree. So if there is none
    modulo the prime, there is none at all, and this is found without great numbers. False decides nothing.
    """
    if one[-1] % PRIME == 0 or other[-1] % PRIME == 0:
        return False
    left = [number % PRIME for number in one]
    right = [number % PRIME for number in other]
    while right:
        left, right = right, rest_modulo(left, right)
    return len(left) == 1
