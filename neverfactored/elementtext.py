"""Texts of elements and polys, and elements and polys of texts."""

from neverfactored.element import coefficients_of
from neverfactored.polys import POLY_ONE
from neverfactored.quotients import as_ratio
from neverfactored.ratios import ONE, ZERO, ratio_negative, ratio_text
from neverfactored.sumreader import read_sum


def element_text(element, letters):
    """Return the one text of an element over the letters."""
    terms = []
    for exponents, quotient in element[::-1]:
        terms.extend(couple_terms(power_texts(letters, exponents), quotient))
    return joined_terms(terms)


def poly_text(poly, letter="t"):
    """Return the one text of a poly in a letter."""
    return joined_terms(poly_terms([], poly, letter))


def couple_terms(powers, quotient):
    """Return the terms of one couple; powers are the texts of its letters."""
    top, bottom = quotient
    if bottom == POLY_ONE:
        return poly_terms(powers, top, "t")
    fraction = f"({poly_text(top)})/({poly_text(bottom)})"
    return [(False, "*".join([fraction] + powers))]


def poly_terms(powers, poly, letter):
    """Return the terms of a poly times other powers, the greatest power of its letter first."""
    terms = []
    for power in range(len(poly) - 1, -1, -1):
        if poly[power] != ZERO:
            terms.append(ratio_term(poly[power], powers + power_texts([letter], [power])))
    return terms


def ratio_term(ratio, powers):
    """Return the couple (whether the ratio is below 0, text of the term without its sign)."""
    below = ratio[0] < 0
    size = ratio_negative(ratio) if below else ratio
    if size == ONE and powers:
        return (below, "*".join(powers))
    return (below, "*".join([ratio_text(size)] + powers))


def power_texts(letters, exponents):
    """Return the texts of the letters whose power is not 0."""
    return [letter if power == 1 else f"{letter}**{power}" for letter, power in zip(letters, exponents) if power > 0]


def joined_terms(terms):
    """Return the text of the sum of terms, couples (below 0, text)."""
    if not terms:
        return "0"
    below, first = terms[0]
    pieces = ["-" + first if below else first]
    for below, term in terms[1:]:
        pieces.append((" - " if below else " + ") + term)
    return "".join(pieces)


def read_element(text, letters, free=True):
    """Return the element of a text over the letters; t is the free letter if it is none of them and free is True."""
    named = free and "t" not in letters
    return read_sum(text, letters, named, 0)


def read_poly(text, letter="t"):
    """Return the poly of a text in one letter."""
    coefficients = coefficients_of(read_sum(text, [letter], False, 0))
    return tuple([as_ratio(coefficient[0][1]) if coefficient else ZERO for coefficient in coefficients])
