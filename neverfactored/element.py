"""Elements: sums of terms over letters, tuples of couples (exponents, quotient).

The couples are ascending by their exponents read from the last letter. Nothing here is reduced by any equation.
"""

from neverfactored.errors import BadElement
from neverfactored.powers import power_by
from neverfactored.quotients import (
    QUOTIENT_ONE, QUOTIENT_ZERO, has_t, is_quotient, quotient_at, quotient_negative, quotient_plus, quotient_times,
    ratio_quotient)
from neverfactored.ratios import ZERO, is_whole, ratio_plus, ratio_power, ratio_times

SMALL_LETTERS = "abcdefghijklmnopqrstuvwxyz"


def is_letter(thing):
    """Return whether a thing of any kind is a named letter."""
    if not isinstance(thing, str) or not 1 <= len(thing) <= 2 or thing[0] not in SMALL_LETTERS:
        return False
    return thing != "t" if len(thing) == 1 else thing[1] in "123456789"


def is_exponents(thing, many):
    """Return whether a thing of any kind is a tuple of so many exponents."""
    return isinstance(thing, tuple) and len(thing) == many and all([is_whole(power, 0) for power in thing])


def is_element(thing, many):
    """Return whether a thing of any kind is an element over so many letters."""
    if not isinstance(thing, tuple):
        return False
    last = None
    for couple in thing:
        if not isinstance(couple, tuple) or not is_row(couple, many) or couple[1] == QUOTIENT_ZERO:
            return False
        order = couple[0][::-1]
        if last is not None and order <= last:
            return False
        last = order
    return True


def is_row(thing, many):
    """Return whether a thing of any kind is a sequence of exponents and a quotient."""
    if not isinstance(thing, (list, tuple)) or len(thing) != 2:
        return False
    return is_exponents(thing[0], many) and is_quotient(thing[1])


def make_element(rows, many):
    """Return the sum of couples (exponents, quotient) in any order; BadElement for the first wrong one."""
    sums = {}
    for index, row in enumerate(rows):
        if not is_row(row, many):
            raise BadElement(index)
        exponents, quotient = row
        sums[exponents] = quotient_plus(sums.get(exponents, QUOTIENT_ZERO), quotient)
    return gathered(sums)


def gathered(sums):
    """Return the element of a dict that tells a quotient for each tuple of exponents."""
    rows = [(exponents[::-1], quotient) for exponents, quotient in sums.items() if quotient != QUOTIENT_ZERO]
    return tuple([(order[::-1], quotient) for order, quotient in sorted(rows, key=lambda row: row[0])])


def constant_element(quotient, many):
    """Return the element over so many letters that is the quotient."""
    if quotient == QUOTIENT_ZERO:
        return ()
    return (((0,) * many, quotient),)


def letter_element(place, many):
    """Return the letter with this number as an element over so many letters."""
    exponents = tuple([1 if number == place else 0 for number in range(many)])
    return ((exponents, QUOTIENT_ONE),)


def element_plus(one, other):
    """Return the sum."""
    sums = {exponents: quotient for exponents, quotient in one}
    for exponents, quotient in other:
        sums[exponents] = quotient_plus(sums.get(exponents, QUOTIENT_ZERO), quotient)
    return gathered(sums)


def element_minus(one, other):
    """Return the difference."""
    return element_plus(one, element_negative(other))


def element_negative(one):
    """Return - one."""
    return tuple([(exponents, quotient_negative(quotient)) for exponents, quotient in one])


def element_times(one, other):
    """Return the product."""
    sums = {}
    for exponents, quotient in one:
        for others, factor in other:
            powers = tuple([power + more for power, more in zip(exponents, others)])
            sums[powers] = quotient_plus(sums.get(powers, QUOTIENT_ZERO), quotient_times(quotient, factor))
    return gathered(sums)


def element_scaled(element, quotient):
    """Return the element times a quotient."""
    if quotient == QUOTIENT_ZERO:
        return ()
    return tuple([(exponents, quotient_times(factor, quotient)) for exponents, factor in element])


def element_power(element, power, many):
    """Return the power of an element over so many letters; power 0 gives 1, also of ()."""
    return power_by(element_times, constant_element(QUOTIENT_ONE, many), element, power)


def element_degree(element, place):
    """Return the greatest exponent of the letter with this number, -1 for ()."""
    return max([exponents[place] for exponents, _ in element], default=-1)


def coefficients_of(element):
    """Return the coefficients of the powers of the last letter, elements over the letters ahead."""
    if not element:
        return ()
    # The couple with the greatest power of the last letter stands at the end.
    rows = [[] for _ in range(element[-1][0][-1] + 1)]
    for exponents, quotient in element:
        rows[exponents[-1]].append((exponents[:-1], quotient))
    return tuple([tuple(row) for row in rows])


def from_coefficients(coefficients):
    """Return the element with these coefficients of the powers of one letter more."""
    return tuple([(exponents + (power,), quotient)
                  for power, coefficient in enumerate(coefficients)
                  for exponents, quotient in coefficient])


def widened(element, many):
    """Return the element over so many letters, with exponents 0 for the new ones behind its own."""
    return tuple([(exponents + (0,) * (many - len(exponents)), quotient) for exponents, quotient in element])


def element_at(element, numbers):
    """Return the value where the letters are these ratios; a number more is the value of t, else t is 0."""
    found = ZERO
    for exponents, quotient in element:
        many = len(exponents)
        # The quotient comes first: a bottom of 0 counts also where a letter is 0.
        value = quotient_at(quotient, numbers[many] if len(numbers) > many else ZERO)
        for power, number in zip(exponents, numbers):
            value = ratio_times(value, ratio_power(number, power))
        found = ratio_plus(found, value)
    return found


def element_set_t(element, number):
    """Return the element with t set to a ratio."""
    couples = [(exponents, ratio_quotient(quotient_at(quotient, number))) for exponents, quotient in element]
    return tuple([couple for couple in couples if couple[1] != QUOTIENT_ZERO])


def element_has_t(element):
    """Return whether the free letter stands in some quotient."""
    return any([has_t(quotient) for _, quotient in element])
