"""Systems: the equations that a person writes, neither plain nor reduced, within bounds."""

from neverfactored.element import (
    coefficients_of, constant_element, element_set_t, from_coefficients, is_element, make_element)
from neverfactored.equations import are_as_many, are_letters, equation_degree, is_monic, place_in, product_of
from neverfactored.errors import BadSystem, TooMany
from neverfactored.polys import POLY_ONE, is_poly, poly_degree
from neverfactored.quotients import has_t, poly_quotient, ratio_quotient
from neverfactored.ratios import ONE
from neverfactored.reducing import reduced
from neverfactored.towers import Tower

MOST_LETTERS = 3
MOST_POWER = 6
MOST_POWER_OF_T = 3
MOST_COUNT = 24
MOST_COUNT_FREE = 8


class System:
    """Letters, each with a monic equation over the letters up to it; with free True t may stand in the equations."""

    def __init__(self, letters, equations, free=False, *, special=False):
        if not are_system_letters(letters, special):
            raise BadSystem("letters", 0)
        if not are_as_many(equations, letters):
            raise BadSystem("many", 0)
        if free and special:
            raise BadSystem("free", 0)
        for place, equation in enumerate(equations):
            what = system_fault(equation, place, free, special)
            if what is not None:
                raise BadSystem(what, place)
        self.letters = tuple(letters)
        self.equations = tuple(equations)
        self.degrees = tuple([equation_degree(equation) for equation in equations])
        self.count = product_of(self.degrees)
        self.free = free
        most = MOST_COUNT_FREE if free else MOST_COUNT
        if self.count > most and not special:
            raise TooMany(most)

    def __eq__(self, other):
        return (isinstance(other, System) and self.letters == other.letters and self.equations == other.equations
                and self.free == other.free)

    @property
    def has_free(self):
        """Whether the system has the free letter, whether it stands in an equation or not."""
        return self.free

    def place_of(self, letter):
        """Return the number of a letter, counted from 0; NoLetter for anything else."""
        return place_in(self.letters, letter)

    def at_free(self, number):
        """Return the system without the free letter that has the ratio in its place."""
        equations = [element_set_t(equation, number) for equation in self.equations]
        return System(self.letters, equations, special=self.letters[0] == "t")

    def special(self, poly):
        """Return the special system with t as its first letter, whose equation is the poly."""
        if self.letters[0] == "t":
            raise BadSystem("letters", 0)
        if not is_poly(poly) or poly_degree(poly) < 1 or poly[-1] != ONE:
            raise BadSystem("special", 0)
        first = with_t_named(constant_element(poly_quotient(poly), 0))
        others = [with_t_named(equation) for equation in self.equations]
        return System(("t",) + self.letters, [first] + others, special=True)


def are_system_letters(letters, special):
    """Return whether a thing of any kind may be the letters of a system."""
    most = MOST_LETTERS + 1 if special else MOST_LETTERS
    return are_letters(letters, 1, most) and (letters[0] == "t") == special


def system_fault(equation, place, free, special):
    """Return the word for what is wrong with the equation at this place, or None."""
    if not is_element(equation, place + 1):
        return "equation"
    if not is_monic(equation):
        return "monic"
    # The powers of the letter t of a special system have no bound.
    bounded = 1 if special else 0
    if any([power > MOST_POWER for exponents, _ in equation for power in exponents[bounded:]]):
        return "degree"
    if not all([may_stand(quotient, free) for _, quotient in equation]):
        return "free"
    return None


def may_stand(quotient, free):
    """Return whether a system that is free or not may have the quotient."""
    if not free:
        return not has_t(quotient)
    return quotient[1] == POLY_ONE and poly_degree(quotient[0]) <= MOST_POWER_OF_T


def with_t_named(element):
    """Return the element in which t is one letter more, ahead of the others; its quotients are polys."""
    rows = [((power,) + exponents, ratio_quotient(ratio))
            for exponents, quotient in element for power, ratio in enumerate(quotient[0])]
    return make_element(rows, len(element[0][0]) + 1)


def system_tower(system):
    """Return the tower whose equations are those of the system, each coefficient reduced by the equations ahead."""
    tower = Tower((), ())
    for letter, equation in zip(system.letters, system.equations):
        rows = [reduced(tower, coefficient) for coefficient in coefficients_of(equation)]
        tower = tower.with_equation(letter, from_coefficients(rows))
    return tower
