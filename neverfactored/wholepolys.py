"""Polys with whole numbers for coefficients: lists, powers ascending, the last number not 0.

Where they are multiplied or divided, the letter is set to a power of two that is so great that the poly can be read
back from its value. So one product or one greatest common divisor of whole numbers does what many steps would do.
"""

from math import gcd, lcm

# Short lists are multiplied faster number by number.
FEW = 6
# Bits beyond those that are needed: a common divisor is seldom hidden by a small number if there are some.
SPARE_BITS = 24


def cleared(poly):
    """Return the couple (numbers, bottom) of the poly that is numbers / bottom, a bottom of 1 or more."""
    shared = 1
    for ratio in poly:
        shared = lcm(shared, ratio[1])
    return [top * (shared // bottom) for top, bottom in poly], shared


def width_of(numbers):
    """Return how many bits the sum of the numbers has, each without its sign."""
    return sum([abs(number) for number in numbers]).bit_length()


def packed(numbers, bits):
    """Return the value where the letter is the power of two with so many bits."""
    value = 0
    for number in numbers[::-1]:
        value = (value << bits) + number
    return value


def unpacked(value, bits):
    """Return the list with this value whose numbers, their signs counted, have at most so many bits."""
    mask = (1 << bits) - 1
    half = 1 << (bits - 1)
    found = []
    while value != 0:
        # Half of the digits are those of numbers below 0.
        number = ((value + half) & mask) - half
        found.append(number)
        value = (value - number) >> bits
    return found


def whole_times(one, other):
    """Return the product of two such lists, none of them empty."""
    if min(len(one), len(other)) < FEW:
        sums = [0 for _ in range(len(one) + len(other) - 1)]
        for place, number in enumerate(one):
            for step, factor in enumerate(other):
                sums[place + step] = sums[place + step] + number * factor
        return sums
    bits = width_of(one) + width_of(other) + 1
    return unpacked(packed(one, bits) * packed(other, bits), bits)


def without_factor(numbers):
    """Return the numbers divided by their greatest common divisor."""
    shared = 0
    for number in numbers:
        shared = gcd(shared, number)
        if shared == 1:
            return list(numbers)
    return [number // shared for number in numbers]


def whole_over(one, other):
    """Return the list that times the other one is one, None if there is none; other is not empty."""
    if len(one) < len(other):
        return None if one else []
    # The numbers of a divisor are not greater than those of a product, but for a factor of 2 for each power.
    bits = max(width_of(one), width_of(other)) + len(one) + 1
    quotient, rest = divmod(packed(one, bits), packed(other, bits))
    if rest != 0:
        return None
    found = unpacked(quotient, bits)
    return found if whole_times(found, other) == one else None


def whole_common(one, other):
    """Return the greatest common divisor, or its negative, of two lists without a common factor of their numbers.

    A divisor of both that is read back from the greatest common divisor of their values is the greatest one, if the
    letter is greater than twice the numbers of one of them. If none can be read back, more bits will do: what hides it
    divides a number that does not hang on the bits.
    """
    bits = min(width_of(one), width_of(other)) + SPARE_BITS
    while True:
        found = without_factor(unpacked(gcd(packed(one, bits), packed(other, bits)), bits))
        if len(found) == 1 or (whole_over(one, found) is not None and whole_over(other, found) is not None):
            return found
        bits = bits * 2
