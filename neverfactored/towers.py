"""Towers: letters, each with an equation over the letters up to it."""

from neverfactored.element import element_at, element_has_t, element_set_t, is_element
from neverfactored.equations import are_as_many, are_letters, equation_degree, is_monic, place_in, product_of
from neverfactored.errors import BadTower, NoPlace
from neverfactored.ratios import ZERO, is_whole

MOST_LETTERS = 4


class Tower:
    """Points letter by letter: each equation is monic in its letter and reduced by the equations ahead."""

    def __init__(self, letters, equations):
        if not are_letters(letters, 0, MOST_LETTERS):
            raise BadTower("letters", 0)
        if not are_as_many(equations, letters):
            raise BadTower("many", 0)
        degrees = []
        for place, equation in enumerate(equations):
            what = tower_fault(equation, degrees, letters[0] == "t")
            if what is not None:
                raise BadTower(what, place)
            degrees.append(equation_degree(equation))
        self.letters = tuple(letters)
        self.equations = tuple(equations)
        self.degrees = tuple(degrees)
        self.count = product_of(degrees)

    def __eq__(self, other):
        return isinstance(other, Tower) and self.letters == other.letters and self.equations == other.equations

    @property
    def has_free(self):
        """Whether the free letter stands in some equation."""
        return any([element_has_t(equation) for equation in self.equations])

    def over(self, k):
        """Return the tower of the first k letters."""
        if not is_whole(k, 0, len(self.letters)):
            raise NoPlace(k)
        return Tower(self.letters[:k], self.equations[:k])

    def place_of(self, letter):
        """Return the number of a letter, counted from 0; NoLetter for anything else."""
        return place_in(self.letters, letter)

    def with_equation(self, letter, equation):
        """Return the tower with one more letter behind the others."""
        return Tower(self.letters + (letter,), self.equations + (equation,))


def t_stands_in(tower, values):
    """Return whether the free letter stands in an equation of the tower or in one of the elements."""
    return tower.has_free or any([element_has_t(value) for value in values])


def tower_fault(equation, degrees, t_is_named):
    """Return the word for what is wrong with the equation behind equations of these degrees, or None."""
    if not is_element(equation, len(degrees) + 1):
        return "equation"
    if not is_monic(equation):
        return "monic"
    if not are_below(equation, degrees):
        return "reduced"
    if t_is_named and element_has_t(equation):
        return "free"
    return None


def are_below(element, degrees):
    """Return whether each exponent in the element is below the degree at its place; further letters are let."""
    return all([power < degree for exponents, _ in element for power, degree in zip(exponents, degrees)])


def has_point(place, numbers):
    """Return whether all equations of a tower or system are 0 where the letters are these ratios.

    If the free letter stands in it, one more number follows, the value of t.
    """
    # Without the free letter in the equations its value means nothing, if one is told.
    free = tuple(numbers[len(place.letters):])
    # All values are reckoned before one is looked at, since a pole is told wherever it is.
    values = [element_at(equation, tuple(numbers[:number + 1]) + free)
              for number, equation in enumerate(place.equations)]
    return all([value == ZERO for value in values])


def tower_set_t(tower, number):
    """Return the tower with the free letter set to a ratio; Pole if a bottom is 0 there."""
    return Tower(tower.letters, [element_set_t(equation, number) for equation in tower.equations])
