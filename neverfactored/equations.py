"""What towers and systems ask of their letters and equations."""

from neverfactored.element import is_letter
from neverfactored.errors import NoLetter
from neverfactored.quotients import QUOTIENT_ONE


def are_letters(thing, least, most):
    """Return whether a thing of any kind is a sequence of so many unlike named letters; "t" may be the first one."""
    if not isinstance(thing, (list, tuple)) or not least <= len(thing) <= most:
        return False
    for place, letter in enumerate(thing):
        if not is_letter(letter) and not (place == 0 and letter == "t"):
            return False
    return len(set(thing)) == len(thing)


def are_as_many(thing, letters):
    """Return whether a thing of any kind is a sequence of as many things as letters."""
    return isinstance(thing, (list, tuple)) and len(thing) == len(letters)


def equation_degree(equation):
    """Return the degree of a monic equation: the power of its last letter in its last term."""
    return equation[-1][0][-1]


def is_monic(element):
    """Return whether an element over one letter or more is monic in its last letter."""
    if not element:
        return False
    # The terms are in order: of those with the greatest power the one without other letters is the first. So if it
    # is the last of all, no other one has this power.
    exponents, quotient = element[-1]
    return exponents[-1] >= 1 and exponents[:-1] == (0,) * (len(exponents) - 1) and quotient == QUOTIENT_ONE


def place_in(letters, letter):
    """Return the number of a letter among the letters."""
    for place, name in enumerate(letters):
        if name == letter:
            return place
    raise NoLetter(letter)


def product_of(degrees):
    """Return the product of whole numbers, 1 of none."""
    product = 1
    for degree in degrees:
        product *= degree
    return product
