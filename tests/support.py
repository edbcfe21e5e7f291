"""What several tests use."""

import random
import unittest

from neverfactored.element import (
    coefficients_of, element_at, element_minus, element_set_t, element_times, from_coefficients, letter_element,
    make_element, widened)
from neverfactored.elementtext import read_element, read_poly
from neverfactored.errors import BadProgram, BadSystem, TooMany
from neverfactored.forms import Form
from neverfactored.joining import Piece
from neverfactored.notes import Notes
from neverfactored.plainruns import run_at
from neverfactored.polys import make_poly, poly_at, poly_over, poly_plain
from neverfactored.programs import Program
from neverfactored.programtext import read_program
from neverfactored.quotients import make_quotient, ratio_quotient
from neverfactored.ratios import make_ratio
from neverfactored.reducing import reduced, tower_plus
from neverfactored.systems import System
from neverfactored.towers import Tower, has_point
from neverfactored.uppers import trim_upper

# Things of many kinds that are none of what the package passes about.
ODD_THINGS = (None, True, False, 0, 1, -1, 1.0, 0.5, "", "x", "xy", b"x", [], (), {}, set(), object(), int, len,
              [(1, 1)], ((),), ((), ()), {"x": 1}, (None,), (None, None), ("x", "y"), ([], []))


def all_whole(thing):
    """Return whether every number in nested tuples is an int that is neither True nor False, and nothing is a list."""
    if isinstance(thing, tuple):
        return all(all_whole(part) for part in thing)
    return isinstance(thing, int) and not isinstance(thing, bool)


class Case(unittest.TestCase):
    """A test case that can tell with which attributes an error is raised."""

    def refused(self, error, told, call, *args, **named):
        """Check that the call raises just this error with these attributes."""
        with self.assertRaises(error) as caught:
            call(*args, **named)
        self.assertIs(caught.exception.__class__, error)
        self.assertEqual(vars(caught.exception), told)
        for name, value in told.items():
            self.assertIs(vars(caught.exception)[name].__class__, value.__class__, name)

    def same(self, found, told):
        """Check that two values of nested tuples are equal, and that no bool stands for a number."""
        self.assertEqual(found, told)
        self.assertTrue(all_whole(found), found)

    def are_parts(self, points, parts):
        """Check that plain towers share out the points of a tower, all of them ratios."""
        shared = [point for part in parts for point in self.whole_points(part, points)]
        self.assertEqual(sorted(shared), sorted(points))

    def is_form(self, form, letters, values):
        """Check that a form is the one of the points, all of them ratios, with these values, told in a dict."""
        self.assertIsInstance(form, Form)
        self.assertEqual(form.letters, tuple(letters))
        self.assertIs(form.pieces.__class__, tuple)
        self.same(form.count, len(values))
        groups = signature_groups(set(values))
        self.assertEqual([piece.tower.degrees[:0:-1] for piece in form], [order for order, _ in groups])
        for piece, (_, points) in zip(form, groups):
            self.assertIsInstance(piece, Piece)
            self.assertEqual((piece.tower.letters, piece.tower.count), (form.letters, len(points)))
            for point in points:
                self.assertTrue(has_point(piece.tower, point))
                self.assertEqual(tuple(element_at(output, point) for output in piece.outputs), values[point])
            for output in piece.outputs:
                self.same(reduced(piece.tower, output), output)

    def whole_points(self, part, points):
        """Return the points of a part; check that it has as many of the points as its count, so no others."""
        self.assertIsInstance(part, Tower)
        found = points_in(part, points)
        self.assertEqual(len(found), part.count)
        return found


def q(text):
    """Return the quotient of the text of a sum of numbers, t and fractions."""
    element = read_element(text, ())
    return element[0][1] if element else ((), ((1, 1),))


def p(text, letter="t"):
    """Return the poly of a text."""
    return read_poly(text, letter)


def e(text, letters=("x", "y"), free=True):
    """Return the element of a text."""
    return read_element(text, letters, free)


def some_ratio(dice, size=5):
    """Return a ratio by dice."""
    return make_ratio(dice.randint(-size, size), dice.randint(1, size))


def some_poly(dice, degree=3):
    """Return a poly by dice, often with noughts in it."""
    return make_poly([some_ratio(dice) if dice.random() < 0.7 else (0, 1) for _ in range(dice.randint(0, degree + 1))])


def some_quotient(dice, with_t=True):
    """Return a quotient by dice."""
    if not with_t:
        return ratio_quotient(some_ratio(dice))
    return make_quotient(some_poly(dice, 2), some_poly(dice, 2) or ((1, 1),))


def some_element(dice, many, terms=4, power=3, with_t=True):
    """Return an element by dice."""
    rows = []
    for _ in range(dice.randint(0, terms)):
        exponents = tuple(dice.randint(0, power) for _ in range(many))
        rows.append((exponents, some_quotient(dice, with_t and dice.random() < 0.5)))
    return make_element(rows, many)


def parsed(lines):
    """Return the letters and the equations of lines such as "x: x**2 - 2"; t is free if it is no letter."""
    letters, equations = [], []
    for line in lines:
        letter, text = line.split(":")
        letters.append(letter)
        equations.append(read_element(text, letters))
    return letters, equations


def tower(*lines):
    """Return the tower of lines such as "x: x**2 - 2"."""
    return Tower(*parsed(lines))


def system(*lines, free=False, special=False):
    """Return the system of lines such as "x: x**2 - 2"."""
    return System(*parsed(lines), free, special=special)


def some_tower(dice, degrees, with_t=False):
    """Return a tower with these degrees by dice, over the first of the letters x, y, z and u."""
    found = Tower((), ())
    for place, degree in enumerate(degrees):
        many = place + 1
        rows = [(tuple(dice.randrange(bound) for bound in degrees[:many]),
                 some_quotient(dice, with_t and dice.random() < 0.4)) for _ in range(3)]
        rows.append(((0,) * place + (degree,), (((1, 1),), ((1, 1),))))
        found = found.with_equation("xyzu"[place], make_element(rows, many))
    return found


def points_of(roots, number=(0, 1)):
    """Return the points of a split tower, told by its roots, where t is the number."""
    points = [()]
    for row in roots:
        points = [point + (element_at(root, point + (number,)),) for point in points for root in row]
    return points


def some_root(dice, many, with_t):
    """Return a small element by dice over so many letters."""
    rows = [(tuple(dice.randint(0, 1) for _ in range(many)),
             make_quotient(make_poly([(dice.randint(-2, 2), 1) for _ in range(3 if with_t else 1)]), ((1, 1),)))
            for _ in range(dice.randint(1, 2))]
    return make_element(rows, many)


def split_equation(roots, many):
    """Return the product of the last of so many letters less each root."""
    product = make_element([((0,) * many, (((1, 1),), ((1, 1),)))], many)
    for root in roots:
        product = element_times(product, element_minus(letter_element(many - 1, many), widened(root, many)))
    return product


def split_tower(dice, degrees, with_t=False):
    """Return (tower, roots): a plain tower by dice, each of its equations a product of letters less roots."""
    while True:
        found = Tower((), ())
        roots = []
        for place, degree in enumerate(degrees):
            roots.append([some_root(dice, place, with_t) for _ in range(degree)])
            rows = coefficients_of(split_equation(roots[-1], place + 1))
            found = found.with_equation("xyzu"[place], from_coefficients([reduced(found, row) for row in rows]))
        if are_unlike(points_of(roots, (17, 5))):
            return found, roots


def are_unlike(points):
    """Return whether no point stands twice."""
    return len(set(points)) == len(points)


def points_in(part, points):
    """Return those of the points that a tower has."""
    return [point for point in points if has_point(part, point)]


def upper_at(upper, point):
    """Return the poly that an upper poly is at a point."""
    return make_poly([element_at(element, point) for element in upper])


def upper_set_t(upper, number):
    """Return an upper poly with t set to a ratio."""
    return tuple(element_set_t(element, number) for element in upper)


# Ratios at which what was reckoned with t is looked at.
SAMPLES = tuple(make_ratio(top, bottom) for bottom in (1, 2) for top in range(-4, 5))
SMALL = sorted({make_ratio(top, bottom) for bottom in (1, 2, 3, 4) for top in range(-16, 17)})


def good_samples(notes, *roots):
    """Return the samples that are no root of what the notes joined, and at which each split tower is plain."""
    return [number for number in SAMPLES if poly_at(notes.joined, number) != (0, 1)
            and all(are_unlike(points_of(row, number)) for row in roots)]


def is_noted(notes, poly):
    """Return whether each root of a poly is one of what the notes joined."""
    return poly_over(notes.joined, poly_plain(poly))[1] == ()


def with_root(dice, letters, roots):
    """Return an element that is 0 where the last of the letters is one of its roots, times one by dice."""
    many = len(letters)
    less = element_minus(letter_element(many - 1, many), widened(dice.choice(roots[-1]), many))
    return element_times(some_element(dice, many, terms=2, power=1, with_t=False), less)


def upper_plus(one, left, right):
    """Return the trimmed sum of two upper polys, reckoned by its entries."""
    size = max(len(left), len(right))
    left, right = tuple(left) + ((),) * (size - len(left)), tuple(right) + ((),) * (size - len(right))
    return trim_upper(one, [tower_plus(one, first, second) for first, second in zip(left, right)])


def u(*texts, letters="x"):
    """Return the upper poly with these coefficients, powers ascending."""
    return tuple(e(text, letters) for text in texts)


def noted(call, *args):
    """Return the result of a call to which notes are passed, and the notes."""
    notes = Notes()
    return call(*args, notes), notes


def split_system(dice, degrees, with_t=False):
    """Return (system, roots): by dice, its equations products of letters less roots, some of them double."""
    while True:
        roots = []
        for place, degree in enumerate(degrees):
            roots.append([some_root(dice, place, with_t) for _ in range(degree)])
            if dice.random() < 0.3:
                roots[-1][0] = roots[-1][-1]
        equations = [split_equation(row, place + 1) for place, row in enumerate(roots)]
        try:
            return System(("x", "y", "z")[:len(degrees)], equations, with_t), roots
        except (BadSystem, TooMany):
            pass


def program(*lines):
    """Return the program of these lines."""
    return read_program("\n".join(lines))


def some_expression(dice, letters, names, height):
    """Return an expression by dice over letters and names."""
    kind = dice.random()
    if height == 1 or kind < 0.25:
        if kind < 0.08 or not letters:
            return ("number", dice.randint(0, 3))
        return ("name", dice.choice(names)) if names and kind < 0.15 else ("letter", dice.choice(letters))
    if kind < 0.35:
        return ("negative", some_expression(dice, letters, names, height - 1))
    if kind < 0.45:
        return ("power", some_expression(dice, letters, names, height - 1), dice.randint(0, 3))
    return (dice.choice(("plus", "minus", "times", "over", "plus", "minus")),
            some_expression(dice, letters, names, height - 1), some_expression(dice, letters, names, height - 1))


def some_block(dice, letters, names, depth):
    """Return lines by dice, blocks within blocks so deep."""
    names = list(names)
    lines = []
    for _ in range(dice.randint(1, 3)):
        kind = dice.random()
        if kind < 0.4 or (depth == 0 and kind < 0.8):
            lines.append(("let", dice.choice(("aa", "bb")), some_expression(dice, letters, names, 3)))
            names.append(lines[-1][1])
        elif kind < 0.65 and depth > 0:
            tests = tuple((dice.choice(("=", "!=")), some_expression(dice, letters, names, 2),
                           some_expression(dice, letters, names, 2)) for _ in range(dice.randint(1, 3)))
            lines.append(("if", tests, tuple(dice.choice(("and", "or")) for _ in tests[1:])))
            lines.extend(some_block(dice, letters, names, depth - 1))
            if dice.random() < 0.6:
                lines.append(("else",))
                lines.extend(some_block(dice, letters, names, depth - 1))
            lines.append(("end",))
        elif kind < 0.8 and depth > 0:
            lines.extend([("for", dice.randint(0, 3)), *some_block(dice, letters, names, depth - 1), ("end",)])
        else:
            many = dice.randint(0, 2)
            values = tuple(some_expression(dice, letters, names, 2) for _ in range(many))
            lines.append(("stop", "mnp"[many], values))
            break
    return lines


def some_program(dice, letters, depth=2):
    """Return a program by dice over the letters."""
    while True:
        try:
            return Program(some_block(dice, letters, [], depth))
        except BadProgram:
            pass


def signature_groups(points):
    """Return the ascending couples (signature but for its last number, points with it), counted by its definition."""
    return sorted(groups_of({point: [point] for point in points})) if points else []


def groups_of(beginnings):
    """Return couples (rest of the signature, points) of a dict of beginnings and the points that stand over each."""
    if any(len(beginning) < 2 for beginning in beginnings):
        return [((), sum(beginnings.values(), []))]
    above = {}
    for beginning, points in beginnings.items():
        above.setdefault(beginning[:-1], []).append(points)
    found = []
    for number in set(map(len, above.values())):
        same = {beginning: sum(rows, []) for beginning, rows in above.items() if len(rows) == number}
        found.extend([((number,) + order, points) for order, points in groups_of(same)])
    return found


def outcomes_at(told, one, roots):
    """Return a dict of the outcomes of a program at the points of a split tower or system."""
    return {point: run_at(told, one.letters, point) for point in points_of(roots)}


def changed_program(dice, told):
    """Return a program by dice that is perhaps not the told one at one line."""
    lines = list(told.lines)
    place = dice.randrange(len(lines))
    line = lines[place]
    if line[0] == "let":
        lines[place] = ("let", line[1], ("times", line[2], ("letter", dice.choice(told.letters or ("x",)))))
    if line[0] == "stop" and line[2]:
        lines[place] = ("stop", line[1], (("plus", line[2][0], ("letter", "x")),) + line[2][1:])
    if line[0] == "if":
        lines[place] = ("if", line[1][::-1], line[2])
    return Program(lines)


def some_free_system(dice, degrees):
    """Return a system with the free letter by dice, most of whose points are no ratios."""
    while True:
        equations = []
        for place, degree in enumerate(degrees):
            rows = [((0,) * place + (degree,), q("1"))]
            for _ in range(dice.randint(1, 3)):
                exponents = tuple(dice.randint(0, 1) for _ in range(place)) + (dice.randint(0, degree - 1),)
                poly = make_poly([(dice.randint(-2, 2), 1) for _ in range(dice.randint(1, 2))])
                rows.append((exponents, make_quotient(poly, ((1, 1),))))
            equations.append(make_element(rows, place + 1))
        try:
            return System(("x", "y", "z")[:len(degrees)], equations, True)
        except BadSystem:
            pass


def with_number(thing, number):
    """Return the lines, tests or expressions of a program with a ratio in the place of the letter t."""
    if thing == ("letter", "t"):
        top, bottom = number
        size = ("over", ("number", abs(top)), ("number", bottom))
        return ("negative", size) if top < 0 else size
    return tuple(with_number(part, number) if isinstance(part, tuple) else part for part in thing)


def ratio_roots(poly):
    """Return the small ratios that are roots of a poly."""
    return [number for number in SMALL if poly_at(poly, number) == (0, 1)]


def dice_of(seed):
    """Return dice that fall alike in every run."""
    return random.Random(seed)
