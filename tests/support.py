"""What several tests use."""

import random
import unittest

from neverfactored.element import make_element
from neverfactored.elementtext import read_element, read_poly
from neverfactored.polys import make_poly
from neverfactored.quotients import make_quotient, ratio_quotient
from neverfactored.ratios import make_ratio
from neverfactored.systems import System
from neverfactored.towers import Tower

# Things of many kinds that are none of what the package passes about.
ODD_THINGS = (None, True, False, 0, 1, -1, 1.0, 0.5, "", "x", "xy", b"x", [], (), {}, set(), object(), int, len,
              [(1, 1)], ((),), ((), ()), {"x": 1}, (None,), (None, None), ("x", "y"), ([], []))


def all_whole(thing):
    """Return whether every number in nested tuples is an int that is neither True nor False, and nothing is a list."""
    if isinstance(thing, tuple):
        return all(all_whole(part) for part in thing)
    return isinstance(thing, int) and not isinstance(thing, bool)


class Case(unittest.TestCase):
    """A test case that can tell with which attributes an error is raised."""

    def refused(self, error, told, call, *args, **named):
        """Check that the call raises just this error with these attributes."""
        with self.assertRaises(error) as caught:
            call(*args, **named)
        self.assertIs(caught.exception.__class__, error)
        self.assertEqual(vars(caught.exception), told)
        for name, value in told.items():
            self.assertIs(vars(caught.exception)[name].__class__, value.__class__, name)

    def same(self, found, told):
        """Check that two values of nested tuples are equal, and that no bool stands for a number."""
        self.assertEqual(found, told)
        self.assertTrue(all_whole(found), found)


def q(text):
    """Return the quotient of the text of a sum of numbers, t and fractions."""
    element = read_element(text, ())
    return element[0][1] if element else ((), ((1, 1),))


def p(text, letter="t"):
    """Return the poly of a text."""
    return read_poly(text, letter)


def e(text, letters=("x", "y"), free=True):
    """Return the element of a text."""
    return read_element(text, letters, free)


def some_ratio(dice, size=5):
    """Return a ratio by dice."""
    return make_ratio(dice.randint(-size, size), dice.randint(1, size))


def some_poly(dice, degree=3):
    """Return a poly by dice, often with noughts in it."""
    return make_poly([some_ratio(dice) if dice.random() < 0.7 else (0, 1) for _ in range(dice.randint(0, degree + 1))])


def some_quotient(dice, with_t=True):
    """Return a quotient by dice."""
    if not with_t:
        return ratio_quotient(some_ratio(dice))
    return make_quotient(some_poly(dice, 2), some_poly(dice, 2) or ((1, 1),))


def some_element(dice, many, terms=4, power=3, with_t=True):
    """Return an element by dice."""
    rows = []
    for _ in range(dice.randint(0, terms)):
        exponents = tuple(dice.randint(0, power) for _ in range(many))
        rows.append((exponents, some_quotient(dice, with_t and dice.random() < 0.5)))
    return make_element(rows, many)


def parsed(lines):
    """Return the letters and the equations of lines such as "x: x**2 - 2"; t is free if it is no letter."""
    letters, equations = [], []
    for line in lines:
        letter, text = line.split(":")
        letters.append(letter)
        equations.append(read_element(text, letters))
    return letters, equations


def tower(*lines):
    """Return the tower of lines such as "x: x**2 - 2"."""
    return Tower(*parsed(lines))


def system(*lines, free=False, special=False):
    """Return the system of lines such as "x: x**2 - 2"."""
    return System(*parsed(lines), free, special=special)


def some_tower(dice, degrees, with_t=False):
    """Return a tower with these degrees by dice, over the first of the letters x, y, z and u."""
    found = Tower((), ())
    for place, degree in enumerate(degrees):
        many = place + 1
        rows = [(tuple(dice.randrange(bound) for bound in degrees[:many]),
                 some_quotient(dice, with_t and dice.random() < 0.4)) for _ in range(3)]
        rows.append(((0,) * place + (degree,), (((1, 1),), ((1, 1),))))
        found = found.with_equation("xyzu"[place], make_element(rows, many))
    return found


def dice_of(seed):
    """Return dice that fall alike in every run."""
    return random.Random(seed)
