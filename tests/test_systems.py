"""[2.9] to [2.12]: systems."""

import unittest

from neverfactored.element import element_plus, element_times, widened
from neverfactored.errors import BadSystem, NoLetter, TooMany
from neverfactored.quotients import QUOTIENT_ONE
from neverfactored.reducing import reduced
from neverfactored.systems import System, system_tower
from neverfactored.towers import Tower, has_point
from tests.support import ODD_THINGS, Case, dice_of, e, p, parsed, some_element, some_poly, system, tower

X = e("x**2 - 2", "x")
Y = e("y**2 - x")
Z = e("z - x*y", ("x", "y", "z"))
THREE = ("x", "y", "z")
T = (((0, 1), (1, 1)), ((1, 1),))


class MakingTest(Case):

    def test_one_to_three_letters(self):
        lines = ["x: x**2 - 2", "y1: y1**3 - x**2", "z: z - x*y1**6"]
        for many, count in ((1, 2), (2, 6), (3, 6)):
            one = system(*lines[:many])
            self.assertEqual(one.letters, ("x", "y1", "z")[:many])
            self.assertEqual(one.degrees, (2, 3, 1)[:many])
            self.same(one.count, count)
            self.assertIs(one.free, False)
            self.assertIs(one.has_free, False)

    def test_attributes_are_tuples(self):
        letters, equations = ["x", "y"], [X, Y]
        one = System(letters, equations)
        letters.append("z")
        equations[0] = Z
        self.assertEqual((one.letters, one.equations, one.degrees), (("x", "y"), (X, Y), (2, 2)))
        for thing in (one.letters, one.equations, one.degrees):
            self.assertIs(thing.__class__, tuple)

    def test_made_by_name(self):
        self.assertEqual(System(equations=(X,), letters=("x",), free=True), system("x: x**2 - 2", free=True))
        self.assertEqual(System(("t",), (e("t", ("t",)),), False, special=True).letters, ("t",))
        with self.assertRaises(TypeError):
            System(("t",), (e("t", ("t",)),), False, True)

    def test_what_need_be_neither_plain_nor_reduced(self):
        one = system("x: x**2", "y: y**2 - x**6*y**1 + x**3")
        self.assertEqual(one.equations[1], e("y**2 - x**6*y + x**3"))

    def test_free(self):
        one = system("x: x**2 - t**3", "y: y**2 - x**6*t**2 + x - t", free=True)
        self.assertIs(one.free, True)
        self.assertIs(one.has_free, True)
        other = system("x: x**2 - 2", free=True)
        self.assertIs(other.free, True)
        self.assertIs(other.has_free, True)


class BoundsTest(Case):

    def refuses(self, what, place, *lines, free=False, special=False):
        letters, equations = parsed(lines)
        self.refused(BadSystem, {"what": what, "place": place}, System, letters, equations, free, special=special)

    def test_letters(self):
        self.assertEqual(system("x: x", "y: y", "z: z").count, 1)
        self.refuses("letters", 0, "x: x", "y: y", "z: z", "u: u")
        self.refuses("letters", 0)

    def test_degree(self):
        for degree in range(1, 7):
            self.assertEqual(system(f"x: x**{degree} - 2").degrees, (degree,))
        self.refuses("degree", 0, "x: x**7 - 2")
        self.refuses("degree", 1, "x: x", "y: y**7 - 2")

    def test_exponents(self):
        self.assertEqual(system("x: x**2 - 2", "y: y - x**6").count, 2)
        self.refuses("degree", 1, "x: x**2 - 2", "y: y - x**7")
        self.refuses("degree", 1, "x: x**2 - 2", "y: y**3 - x**7*y")
        self.assertEqual(system("x: x", "y: y", "z: z**2 - x**6*y**6*z").count, 2)
        self.refuses("degree", 2, "x: x", "y: y", "z: z**2 - y**7")
        self.refuses("degree", 2, "x: x", "y: y", "z: z**2 - x**7*z")

    def test_powers_of_t(self):
        self.assertEqual(system("x: x**2 - t**3", free=True).count, 2)
        self.refuses("free", 0, "x: x**2 - t**4", free=True)
        self.refuses("free", 1, "x: x", "y: y - x*t**4 + t", free=True)

    def test_bottoms(self):
        self.refuses("free", 0, "x: x**2 - (1)/(t)", free=True)
        self.refuses("free", 1, "x: x", "y: y - (t)/(t + 1)*x", free=True)
        self.assertEqual(system("x: x - (t**2)/(t)", free=True), system("x: x - t", free=True))

    def test_t_where_it_must_not_stand(self):
        self.refuses("free", 0, "x: x - t")
        self.refuses("free", 0, "x: x - (1)/(t)")
        self.refuses("free", 1, "x: x", "y: y - t*x")

    def test_the_product_of_the_degrees(self):
        self.assertEqual(system("x: x**6", "y: y**4").count, 24)
        self.assertEqual(system("x: x**2", "y: y**3", "z: z**4").count, 24)
        for lines in (("x: x**5", "y: y**5"), ("x: x**3", "y: y**3", "z: z**3"), ("x: x**6", "y: y**6", "z: z**6")):
            self.refused(TooMany, {"most": 24}, system, *lines)

    def test_the_product_of_the_degrees_with_the_free_letter(self):
        self.assertEqual(system("x: x**2 - t", "y: y**2", "z: z**2", free=True).count, 8)
        for lines in (("x: x**3 - t", "y: y**3"), ("x: x**2", "y: y**5")):
            self.refused(TooMany, {"most": 8}, system, *lines, free=True)
        self.assertEqual(system("x: x**3", "y: y**3").count, 9)


class SpecialTest(Case):

    def special(self, *lines):
        return system(*lines, special=True)

    def refuses(self, what, place, *lines, free=False):
        letters, equations = parsed(lines)
        self.refused(BadSystem, {"what": what, "place": place}, System, letters, equations, free, special=True)

    def test_one_to_four_letters(self):
        lines = ["t: t**2 - 2", "x: x**2 - t", "y: y - x", "z: z**3 - y"]
        for many, count in ((1, 2), (2, 4), (3, 4), (4, 12)):
            one = self.special(*lines[:many])
            self.assertEqual(one.letters, ("t", "x", "y", "z")[:many])
            self.assertEqual(one.count, count)
            self.assertIs(one.free, False)
            self.assertIs(one.has_free, False)

    def test_t_has_no_bound(self):
        one = self.special("t: t**99 - 2", "x: x**2 - t**77*x + t**9", "y: y**6 - x**6*t**50")
        self.assertEqual(one.degrees, (99, 2, 6))
        self.assertEqual(one.count, 99 * 12)
        great = 10 ** 30
        self.assertEqual(System(("t",), ((((great,), QUOTIENT_ONE),),), special=True).count, great)

    def test_no_bound_for_the_product(self):
        self.assertEqual(self.special("t: t**2", "x: x**6", "y: y**6", "z: z**6").count, 432)

    def test_all_other_bounds_hold(self):
        self.refuses("degree", 1, "t: t**2", "x: x**7")
        self.refuses("degree", 2, "t: t**2", "x: x", "y: y - x**7")
        self.refuses("degree", 2, "t: t**2", "x: x", "y: y - t**9*x**7")

    def test_letters(self):
        self.refuses("letters", 0, "x: x**2 - 2")
        self.refuses("letters", 0, "x: x", "t: t")
        self.refuses("letters", 0)
        self.refuses("letters", 0, "t: t", "x: x", "y: y", "z: z", "u: u")
        self.refuses("letters", 0, "t1: t1")

    def test_free_must_be_false(self):
        self.refuses("free", 0, "t: t**2 - 2", free=True)
        self.refuses("free", 0, "t: t**2 - 2", "x: x**7", free=True)

    def test_no_free_letter(self):
        first = e("t**2 - 2", ("t",))
        second = (((0, 0), T), ((0, 1), QUOTIENT_ONE))
        self.refused(BadSystem, {"what": "free", "place": 1}, System, ("t", "x"), (first, second), special=True)
        self.refused(BadSystem, {"what": "free", "place": 0}, System, ("t",), ((((0,), T), ((1,), QUOTIENT_ONE)),),
                     special=True)


class RefusedTest(Case):

    def refuses(self, what, place, letters, equations, free=False, special=False):
        self.refused(BadSystem, {"what": what, "place": place}, System, letters, equations, free, special=special)

    def test_letters(self):
        for letters in ((), [], "x", "xy", None, 5, {"x": 1}, {"x"}, ["X"], [""], [1], [None], [["x"]], ("x", "x"),
                        ("t",), ("t", "x"), ("x", "t"), ("x0",), ("x", "y", "z", "u"), b"x"):
            for free in (False, True):
                self.refuses("letters", 0, letters, (X,), free)
                self.refuses("letters", 0, letters, None, free)

    def test_many(self):
        for equations in ((), (X,), (X, Y, Z), None, 5, "xy", {0: X, 1: Y}, []):
            self.refuses("many", 0, ("x", "y"), equations)
            self.refuses("many", 0, ("t", "x"), equations, special=True)
            self.refuses("many", 0, ("t", "x"), equations, True, True)

    def test_equation(self):
        for thing in (list(X), Y, e("1", ()), None, "x**2 - 2", 5, X[::-1]):
            self.refuses("equation", 0, ("x",), (thing,))
        for thing in (list(Y), X, Z, None):
            self.refuses("equation", 1, ("x", "y"), (X, thing))

    def test_monic(self):
        for text in ("0", "1", "t", "2*x**2 - 1", "-x", "t*x", "(1)/(t)*x", "2*x**9"):
            self.refuses("monic", 0, ("x",), (e(text, "x"),))
        for text in ("x", "x*y", "y**2 + x*y**2", "2*y", "x*y**9", "y + x*y"):
            self.refuses("monic", 1, ("x", "y"), (X, e(text)))

    def test_free_and_special(self):
        self.refuses("free", 0, ("t",), (e("t**2 - 2", ("t",)),), True, True)
        self.refuses("free", 0, ("t",), (None,), True, True)
        self.refuses("letters", 0, ("x",), (X,), True, True)

    def test_two_faults_in_one_equation(self):
        self.refuses("monic", 0, ("x",), (e("2*x**9", "x"),))
        self.refuses("monic", 0, ("x",), (e("2*x**9 - t", "x"),))
        self.refuses("monic", 0, ("x",), (e("2*x - t", "x"),))
        self.refuses("degree", 0, ("x",), (e("x**9 - t", "x"),))
        self.refuses("degree", 1, ("x", "y"), (X, e("y - x**7*t")))

    def test_one_fault_in_each_of_two_equations(self):
        self.refuses("free", 0, ("x", "y"), (e("x - t", "x"), None))
        self.refuses("degree", 0, ("x", "y"), (e("x**7", "x"), e("2*y")))
        self.refuses("monic", 0, ("x", "y"), (e("2*x", "x"), Y[::-1]))
        self.refuses("degree", 1, THREE, (X, e("y**7"), None))
        self.refuses("free", 1, THREE, (X, e("y - t"), e("2*z", THREE)))

    def test_too_many_comes_behind_all(self):
        self.refuses("free", 1, ("x", "y"), (e("x**6", "x"), e("y**6 - t")))
        self.refuses("free", 1, ("x", "y"), (e("x**6 - t", "x"), e("y**6 - t**4")), True)
        self.refuses("equation", 2, THREE, (e("x**6", "x"), e("y**6"), None))

    def test_odd_things(self):
        for thing in ODD_THINGS:
            with self.assertRaises(BadSystem):
                System(thing, thing)
            with self.assertRaises(BadSystem):
                System(("x",), (thing,))


class MethodsTest(Case):

    def test_equality(self):
        one = system("x: x**2 - 2", "y: y**2 - x")
        self.assertTrue(one == System(["x", "y"], [X, Y]))
        self.assertFalse(one != System(["x", "y"], [X, Y]))
        for other in (system("x: x**2 - 2"), system("x: x**2 - 2", "z: z**2 - x"), system("x: x**2 - 2", "y: y**2"),
                      system("x: x**2 - 2", "y: y**2 - x", free=True)):
            self.assertFalse(one == other)
            self.assertTrue(one != other)

    def test_place_of(self):
        one = system("x: x**2 - 2", "y: y**2 - x", "z1: z1")
        self.assertEqual([one.place_of(letter) for letter in ("x", "y", "z1")], [0, 1, 2])
        self.assertEqual(system("t: t", "x: x", special=True).place_of("t"), 0)
        for thing in ("z", "t", "", None, 0, 1, True, ["x"], ("x",), {"x"}, b"x", object()):
            self.refused(NoLetter, {"letter": thing}, one.place_of, thing)

    def test_at_free(self):
        one = system("x: x**2 - t*x + 1", "y: y**2 - t**3*x**3 + t - 2", free=True)
        found = one.at_free((2, 1))
        self.assertEqual(found, system("x: x**2 - 2*x + 1", "y: y**2 - 8*x**3"))
        self.assertIs(found.free, False)
        self.assertEqual(one.at_free((-1, 2)), system("x: x**2 + 1/2*x + 1", "y: y**2 + 1/8*x**3 - 5/2"))
        self.assertEqual(system("x: x**2 - 2", free=True).at_free((7, 1)), system("x: x**2 - 2"))
        self.assertIs(one.free, True)

    def test_at_free_of_a_system_that_is_not_free(self):
        for one in (system("x: x**2 - 2", "y: y**4 - x**3"), system("t: t**3 - 2", "x: x**2 - t**9", special=True),
                    system("t: t**2", "x: x**6", "y: y**6", special=True)):
            self.assertEqual(one.at_free((5, 1)), one)

    def test_special(self):
        one = system("x: x**2 - t*x + 1", "y: y**2 - 1/2*t**3*x**3 + t - 2", free=True)
        found = one.special(p("t**4 - 2"))
        self.assertEqual(found, system("t: t**4 - 2", "x: x**2 - t*x + 1", "y: y**2 - 1/2*t**3*x**3 + t - 2",
                                       special=True))
        self.assertIs(found.free, False)
        self.assertEqual(found.letters, ("t", "x", "y"))
        self.assertEqual(found.count, 16)
        self.assertEqual(one.letters, ("x", "y"))

    def test_special_of_a_system_that_is_not_free(self):
        one = system("x: x**2 - 2", "y: y**4 - x**3", "z: z**3 - x")
        found = one.special(((-7, 1), (1, 1)))
        self.assertEqual(found, system("t: t - 7", "x: x**2 - 2", "y: y**4 - x**3", "z: z**3 - x", special=True))
        self.assertEqual(one.special(p("t**50")).degrees, (50, 2, 4, 3))

    def test_special_at_the_bounds(self):
        one = system("x: x**2 - t**3", "y: y**2 - t**3*x**6", "z: z**2 - t*x", free=True)
        self.assertEqual(one.special(p("t**99 - 1")).count, 99 * 8)

    def test_special_refused(self):
        for one in (system("x: x**2 - t", free=True), system("x: x**2 - 2")):
            for thing in (None, True, 1, "t", "t**2 - 2", [(-2, 1), (1, 1)], (), ((1, 1),), ((5, 1),), ((1, 1), (2, 1)),
                          ((1, 1), (-1, 1)), ((1, 1), (0, 1)), ((1, 1), 1), (1, 1), ((2, 2), (1, 1)),
                          e("t**2 - 2", ("t",)), ((True, 1), (1, 1)), object()):
                self.refused(BadSystem, {"what": "special", "place": 0}, one.special, thing)

    def test_special_refused_where_t_is_a_letter(self):
        one = system("t: t**2 - 2", "x: x**2 - t", special=True)
        for thing in (p("t**2 - 2"), None, (), ((1, 1),)):
            self.refused(BadSystem, {"what": "letters", "place": 0}, one.special, thing)

    def test_points_of_special(self):
        one = system("x: x**2 - t", "y: y - t*x", free=True)
        found = one.special(p("t**2 - 5*t + 4"))
        for t in range(6):
            for x in range(-2, 3):
                for y in range(-9, 10):
                    told = t in (1, 4) and has_point(one, [(x, 1), (y, 1), (t, 1)])
                    self.assertIs(has_point(found, [(t, 1), (x, 1), (y, 1)]), told)


class SystemTowerTest(Case):

    def test_the_worked_example(self):
        one = system("x: x**2 - 2", "y: y**2 - x**3")
        found = system_tower(one)
        self.assertIs(found.__class__, Tower)
        self.assertEqual(found, tower("x: x**2 - 2", "y: y**2 - 2*x"))
        self.assertEqual(found.count, 4)
        self.same(reduced(found, e("y**3*x")), e("4*y"))
        self.same(reduced(found, element_times(e("x + 1"), e("x - 1"))), e("1"))

    def test_reduced_by_the_equations_as_they_stand_in_the_tower(self):
        one = system("x: x**2 - 2", "y: y**2 - x**3", "z: z**3 - x**2*y**4*z - y**3")
        self.assertEqual(system_tower(one),
                         tower("x: x**2 - 2", "y: y**2 - 2*x", "z: z**3 - 16*z - 2*x*y"))

    def test_own_powers_are_not_reduced(self):
        one = system("x: x**3 - x**2 - 1", "y: y**2 - y")
        self.assertEqual(system_tower(one), tower("x: x**3 - x**2 - 1", "y: y**2 - y"))

    def test_degrees_of_1(self):
        self.assertEqual(system_tower(system("x: x - 3", "y: y**2 - x**3*y - x")), tower("x: x - 3", "y: y**2 - 27*y - 3"))

    def test_free_and_special(self):
        free = system("x: x**2 - t", "y: y**2 - x**5", free=True)
        self.assertEqual(system_tower(free), tower("x: x**2 - t", "y: y**2 - t**2*x"))
        self.assertEqual(system_tower(free.special(p("t**2 - 3"))),
                         tower("t: t**2 - 3", "x: x**2 - t", "y: y**2 - 3*x"))

    def test_the_same_degrees_and_reduced_elements(self):
        dice = dice_of(107)
        for _ in range(25):
            rows = [e("x**2", "x"), some_element(dice, 1, power=1, with_t=False)]
            first = element_plus(rows[0], rows[1])
            second = element_plus(e("y**3"), from_lower(dice))
            one = System(("x", "y"), (first, second))
            found = system_tower(one)
            self.assertEqual((found.letters, found.degrees), (one.letters, one.degrees))
            element = some_element(dice, 2)
            more = element
            for equation in one.equations:
                more = element_plus(more, element_times(some_element(dice, 2, power=1), widened(equation, 2)))
            self.same(reduced(found, more), reduced(found, element))

    def test_the_same_points(self):
        one = system("x: x**2 - 3*x + 2", "y: y**2 - x**3*y")
        found = system_tower(one)
        for x in range(4):
            for y in range(10):
                self.assertIs(has_point(found, [(x, 1), (y, 1)]), has_point(one, [(x, 1), (y, 1)]))

    def test_some_poly_is_no_special_one(self):
        dice = dice_of(109)
        one = system("x: x**2 - 2")
        for _ in range(40):
            poly = some_poly(dice)
            if len(poly) > 1 and poly[-1] == (1, 1):
                self.assertEqual(one.special(poly).degrees, (len(poly) - 1, 2))
            else:
                self.refused(BadSystem, {"what": "special", "place": 0}, one.special, poly)


def from_lower(dice):
    """Return an element over x, y with powers of y below 3 and powers of x up to 5, by dice."""
    rows = some_element(dice, 2, terms=5, power=5, with_t=False)
    return tuple(row for row in rows if row[0][1] < 3)


if __name__ == "__main__":
    unittest.main()
