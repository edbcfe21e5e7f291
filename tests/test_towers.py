"""[2.1] to [2.3], [2.8]: towers."""

import unittest

from neverfactored.element import element_set_t
from neverfactored.errors import BadTower, NoLetter, NoPlace, Pole
from neverfactored.quotients import QUOTIENT_ONE
from neverfactored.reducing import reduced
from neverfactored.towers import Tower, has_point, tower_set_t
from tests.support import ODD_THINGS, Case, dice_of, e, some_element, some_ratio, some_tower, system, tower

X = e("x**2 - 2", "x")
Y = e("y**2 - x")
LETTERS = ("x", "y", "z", "u", "v")


class MakingTest(Case):

    def test_no_letter(self):
        one = Tower((), ())
        self.assertEqual((one.letters, one.equations, one.degrees), ((), (), ()))
        self.same(one.count, 1)
        self.assertEqual(Tower([], []), one)

    def test_one_to_four_letters(self):
        lines = ["x: x**2 - 2", "y: y**3 - x*y - 1/2*t", "z1: z1 - x*y**2", "u: u**2 - (1)/(t)"]
        for many, count in ((1, 2), (2, 6), (3, 6), (4, 12)):
            one = tower(*lines[:many])
            self.assertEqual(one.letters, ("x", "y", "z1", "u")[:many])
            self.assertEqual(one.degrees, (2, 3, 1, 2)[:many])
            self.same(one.count, count)

    def test_attributes_are_tuples(self):
        one = Tower(["x", "y"], [X, Y])
        self.assertEqual((one.letters, one.equations), (("x", "y"), (X, Y)))
        self.assertIs(one.letters.__class__, tuple)
        self.assertIs(one.equations.__class__, tuple)
        self.assertIs(one.degrees.__class__, tuple)
        self.same(one.degrees, (2, 2))

    def test_made_by_name(self):
        self.assertEqual(Tower(equations=(X,), letters=("x",)), tower("x: x**2 - 2"))

    def test_lists_that_are_changed_later(self):
        letters, equations = ["x"], [X]
        one = Tower(letters, equations)
        letters[0] = "y"
        equations[0] = e("x**3", "x")
        letters.append("z")
        equations.append(X)
        self.assertEqual(one, tower("x: x**2 - 2"))

    def test_t_as_the_first_name(self):
        one = tower("t: t**2 - 2", "x: x**2 - t", "y: y - t*x")
        self.assertEqual(one.letters, ("t", "x", "y"))
        self.assertEqual(tower("t: t - 7").letters, ("t",))
        self.assertEqual(tower("t1: t1**2 - t", "t2: t2**2 - t1*t").letters, ("t1", "t2"))

    def test_degrees_have_no_bound(self):
        great = 10 ** 30
        one = Tower(("x", "y"), ((((great,), QUOTIENT_ONE),), (((great - 1, 0), QUOTIENT_ONE), ((0, 7), QUOTIENT_ONE))))
        self.assertEqual(one.degrees, (great, 7))
        self.assertEqual(one.count, 7 * great)


class RefusedTest(Case):

    def refuses(self, what, place, letters, equations):
        self.refused(BadTower, {"what": what, "place": place}, Tower, letters, equations)

    def test_letters(self):
        for letters in ("x", "xy", "", None, 5, {"x": 1}, {"x"}, b"x", ["X"], ["xy"], [1], [None], [""], [["x"]],
                        ("x", "x"), ("x", "y", "x"), ("x0",), ("x", "t"), ("x", "y", "t"), ("t", "t"),
                        ("x", "y", "z", "t"), (("x",),), ("x", True)):
            self.refuses("letters", 0, letters, ())
            self.refuses("letters", 0, letters, (X, Y))
            self.refuses("letters", 0, letters, None)

    def test_five_letters(self):
        self.refuses("letters", 0, LETTERS, ())
        self.refuses("letters", 0, list(LETTERS), [])

    def test_many(self):
        for equations in ((), (X,), (X, Y, Y), None, 5, "xy", {0: X, 1: Y}, "", X[:1], []):
            self.refuses("many", 0, ("x", "y"), equations)
        self.refuses("many", 0, (), (X,))
        self.refuses("many", 0, (), "")
        self.refuses("many", 0, ("x",), {X})

    def test_equation(self):
        for thing in (list(X), Y, e("1", ()), None, "x**2 - 2", 5, (((2,), (1, 1)),), X[::-1], (list(X[0]), X[1])):
            self.refuses("equation", 0, ("x",), (thing,))
        for thing in (list(Y), X, None, e("y**2 - x", ("x", "y", "z"))):
            self.refuses("equation", 1, ("x", "y"), (X, thing))

    def test_monic(self):
        for text in ("0", "1", "t", "7", "2*x**2 - 1", "-x", "t*x", "1/2*x**2", "(1)/(t)*x"):
            self.refuses("monic", 0, ("x",), (e(text, "x"),))
        for text in ("x", "x**2", "x*y", "y**2 + x*y**2", "x*y**2 + y", "2*y", "t*y**2", "y**2*x", "1", "0",
                     "y**3*x + y**3", "x*y + y"):
            self.refuses("monic", 1, ("x", "y"), (X, e(text)))

    def test_reduced(self):
        for text in ("y - x**2", "y**2 - x**2", "y**3 - x**5*y", "y**2 + x**2*y - 1", "y - x**3 + x"):
            self.refuses("reduced", 1, ("x", "y"), (X, e(text)))
        self.refuses("reduced", 1, ("x", "y"), (e("x - 2", "x"), Y))
        three = ("x", "y", "z")
        self.refuses("reduced", 2, three, (X, Y, e("z - x**2", three)))
        self.refuses("reduced", 2, three, (X, Y, e("z**2 - y**2*z", three)))
        self.assertEqual(Tower(three, (X, Y, e("z**2 - x*y*z", three))).count, 8)

    def test_free(self):
        self.refuses("free", 0, ("t",), ((((0,), (((0, 1), (1, 1)), ((1, 1),))), ((1,), QUOTIENT_ONE)),))
        first = e("t**2 - 2", ("t",))
        second = (((0, 0), (((1, 1),), ((0, 1), (1, 1)))), ((0, 1), QUOTIENT_ONE))
        self.refuses("free", 1, ("t", "x"), (first, second))

    def test_the_order_of_words(self):
        self.refuses("letters", 0, ("x", "x"), (None, None, None))
        self.refuses("many", 0, ("x", "y"), (None, None, None))
        self.refuses("monic", 1, ("x", "y"), (X, e("x**2*y + x**5")))
        self.refuses("reduced", 1, ("t", "x"), (e("t**2 - 2", ("t",)), (
            ((2, 0), (((0, 1), (1, 1)), ((1, 1),))), ((0, 1), QUOTIENT_ONE))))

    def test_all_words_for_one_equation_ahead_of_the_next(self):
        self.refuses("reduced", 1, ("x", "y", "z"), (X, e("y - x**2"), None))
        self.refuses("monic", 0, ("x", "y"), (e("2*x", "x"), None))
        self.refuses("equation", 1, ("x", "y", "z"), (X, None, None))
        self.refuses("free", 0, ("t", "x"), ((((0,), (((0, 1), (1, 1)), ((1, 1),))), ((1,), QUOTIENT_ONE)), None))


class AttributesTest(Case):

    def test_has_free(self):
        for one in (tower(), tower("x: x**2 - 2"), tower("t: t**2 - 2", "x: x - t")):
            self.assertIs(one.has_free, False)
        for one in (tower("x: x**2 - t"), tower("x: x", "y: y - (1)/(t)"), tower("x: x - t", "y: y")):
            self.assertIs(one.has_free, True)

    def test_equality(self):
        one = tower("x: x**2 - 2", "y: y**2 - x")
        self.assertTrue(one == Tower(["x", "y"], [X, Y]))
        self.assertFalse(one != Tower(["x", "y"], [X, Y]))
        for other in (tower("x: x**2 - 2"), tower("x: x**2 - 2", "z: z**2 - x"), tower("x: x**2 - 2", "y: y**2 - 2*x"),
                      tower("x: x**2 - 3", "y: y**2 - x"), tower()):
            self.assertFalse(one == other)
            self.assertTrue(one != other)

    def test_over(self):
        one = tower("x: x**2 - t", "y: y**2 - x", "z: z - x*y")
        self.assertEqual(one.over(0), tower())
        self.assertEqual(one.over(1), tower("x: x**2 - t"))
        self.assertEqual(one.over(2), tower("x: x**2 - t", "y: y**2 - x"))
        self.assertEqual(one.over(k=3), one)
        self.assertEqual(one.over(2).count, 4)
        self.assertEqual(tower().over(0), tower())

    def test_over_refused(self):
        one = tower("x: x**2 - 2", "y: y**2 - x")
        for k in (3, -1, 10 ** 30, True, False, 1.0, "1", None, "x", [1], (1,)):
            self.refused(NoPlace, {"place": k}, one.over, k)
        self.refused(NoPlace, {"place": 1}, tower().over, 1)

    def test_place_of(self):
        one = tower("t: t**2 - 2", "x: x - t", "y1: y1")
        self.assertEqual([one.place_of(letter) for letter in ("t", "x", "y1")], [0, 1, 2])
        self.same(one.place_of("x"), 1)

    def test_place_of_refused(self):
        one = tower("x: x**2 - 2", "y: y**2 - x")
        for thing in ("z", "t", "X", "", "xy", None, 0, 1, True, 1.0, ["x"], ("x",), ("x", "y"), {"x": 1}, {"x"}, b"x",
                      object()):
            self.refused(NoLetter, {"letter": thing}, one.place_of, thing)
        self.refused(NoLetter, {"letter": "x"}, tower().place_of, "x")

    def test_with_equation(self):
        one = tower("x: x**2 - 2")
        self.assertEqual(one.with_equation("y", Y), tower("x: x**2 - 2", "y: y**2 - x"))
        self.assertEqual(one.with_equation(equation=Y, letter="z"), tower("x: x**2 - 2", "z: z**2 - x"))
        self.assertEqual(tower().with_equation("t", e("t - 1", ("t",))), tower("t: t - 1"))
        self.assertEqual(one, tower("x: x**2 - 2"))

    def test_with_equation_refused(self):
        one = tower("x: x**2 - 2")
        for letter in ("x", "t", "X", None, 5, ["y"]):
            self.refused(BadTower, {"what": "letters", "place": 0}, one.with_equation, letter, Y)
        for what, equation in (("equation", X), ("equation", list(Y)), ("monic", e("x*y")), ("reduced", e("y - x**2"))):
            self.refused(BadTower, {"what": what, "place": 1}, one.with_equation, "y", equation)
        four = tower("x: x", "y: y", "z: z", "u: u")
        self.refused(BadTower, {"what": "letters", "place": 0}, four.with_equation, "v", e("v", LETTERS))
        named = tower("t: t**2 - 2")
        self.refused(BadTower, {"what": "free", "place": 1}, named.with_equation, "x",
                     (((0, 0), (((0, 1), (1, 1)), ((1, 1),))), ((0, 1), QUOTIENT_ONE)))


class PointsTest(Case):

    def test_towers(self):
        one = tower("x: x**2 - x", "y: y**2 - 3*x*y + 2*x")
        points = {(0, 0), (1, 1), (1, 2)}
        for x in range(-1, 3):
            for y in range(-1, 4):
                self.assertIs(has_point(one, [(x, 1), (y, 1)]), (x, y) in points)
        self.assertIs(has_point(tower("x: x - 1/2"), ((1, 2),)), True)
        self.assertIs(has_point(tower(), []), True)
        self.assertIs(has_point(tower(), ((5, 1),)), True)

    def test_a_first_equation_that_is_not_0(self):
        one = tower("x: x**2 - 1", "y: y - x")
        self.assertIs(has_point(one, [(5, 1), (5, 1)]), False)
        self.assertIs(has_point(one, [(1, 1), (2, 1)]), False)
        self.assertIs(has_point(one, [(1, 1), (1, 1)]), True)

    def test_systems(self):
        one = system("x: x**2 - 4", "y: y**2 - x**3 + 4")
        self.assertIs(has_point(one, [(2, 1), (2, 1)]), True)
        self.assertIs(has_point(one, [(2, 1), (-2, 1)]), True)
        self.assertIs(has_point(one, [(-2, 1), (2, 1)]), False)

    def test_a_number_more_means_nothing(self):
        one = tower("x: x**2 - 4")
        self.assertIs(has_point(one, [(2, 1), (7, 1)]), True)
        self.assertIs(has_point(one, [(7, 1), (2, 1)]), False)
        two = tower("x: x - 1", "y: y - 2")
        self.assertIs(has_point(two, [(1, 1), (2, 1), (9, 1)]), True)
        self.assertIs(has_point(two, [(2, 1), (2, 1), (1, 1)]), False)

    def test_with_the_free_letter(self):
        one = tower("x: x**2 - t", "y: y - x - 1/2*t")
        self.assertIs(has_point(one, [(2, 1), (4, 1), (4, 1)]), True)
        self.assertIs(has_point(one, [(2, 1), (4, 1), (5, 1)]), False)
        self.assertIs(has_point(one, [(-3, 1), (3, 2), (9, 1)]), True)
        only_last = tower("x: x**2 - 1", "y: y - t*x")
        self.assertIs(has_point(only_last, [(1, 1), (7, 1), (7, 1)]), True)
        only_first = tower("x: x - t", "y: y - 1")
        self.assertIs(has_point(only_first, [(7, 1), (1, 1), (7, 1)]), True)

    def test_free_systems(self):
        one = system("x: x**2 - t", "y: y - x", free=True)
        self.assertIs(has_point(one, [(2, 1), (2, 1), (4, 1)]), True)
        self.assertIs(has_point(one, [(2, 1), (2, 1), (5, 1)]), False)
        plain = system("x: x**2 - 1", free=True)
        self.assertIs(has_point(plain, [(1, 1), (7, 1)]), True)

    def test_t_as_a_letter(self):
        one = tower("t: t**2 - 4", "x: x - t")
        self.assertIs(has_point(one, [(2, 1), (2, 1)]), True)
        self.assertIs(has_point(one, [(2, 1), (-2, 1)]), False)
        two = system("t: t**2 - 4", "x: x - t", special=True)
        self.assertIs(has_point(two, [(-2, 1), (-2, 1)]), True)

    def test_poles(self):
        one = tower("x: x - (1)/(t - 3)")
        self.refused(Pole, {"at": (3, 1)}, has_point, one, [(1, 1), (3, 1)])
        self.assertIs(has_point(one, [(1, 2), (5, 1)]), True)

    def test_poles_where_another_equation_is_not_0(self):
        one = tower("x: x - 1", "y: y - (1)/(t - 3)", "z: z")
        self.refused(Pole, {"at": (3, 1)}, has_point, one, [(7, 1), (0, 1), (0, 1), (3, 1)])
        self.refused(Pole, {"at": (3, 1)}, has_point, one, [(1, 1), (0, 1), (7, 1), (3, 1)])
        two = tower("x: x**2", "y: y - (1)/(t)*x")
        self.refused(Pole, {"at": (0, 1)}, has_point, two, [(0, 1), (5, 1), (0, 1)])


class SetTest(Case):

    def test_followed_by_hand(self):
        one = tower("x: x**2 - t*x + (1)/(t)", "y: y**2 - t*x*y + x*y")
        self.assertEqual(tower_set_t(one, (1, 1)), tower("x: x**2 - x + 1", "y: y**2"))
        self.assertEqual(tower_set_t(one, (1, 2)), tower("x: x**2 - 1/2*x + 2", "y: y**2 + 1/2*x*y"))

    def test_without_t(self):
        for one in (tower(), tower("x: x**2 - 2"), tower("t: t**2 - 2", "x: x - t")):
            self.assertEqual(tower_set_t(one, (5, 1)), one)

    def test_poles(self):
        one = tower("x: x**2 - 1", "y: y - (1)/(t**2 - 4)*x")
        self.refused(Pole, {"at": (2, 1)}, tower_set_t, one, (2, 1))
        self.refused(Pole, {"at": (-2, 1)}, tower_set_t, one, (-2, 1))

    def test_reducing_and_setting_in_either_order(self):
        dice = dice_of(67)
        poles = 0
        for _ in range(60):
            one = some_tower(dice, (2, 3), with_t=True)
            element, number = some_element(dice, 2, power=4), some_ratio(dice)
            try:
                told = reduced(tower_set_t(one, number), element_set_t(element, number))
            except Pole as pole:
                self.assertEqual(pole.at, number)
                poles += 1
            else:
                self.same(element_set_t(reduced(one, element), number), told)
        self.assertLess(0, poles)
        self.assertLess(poles, 40)


class OddThingsTest(Case):

    def test_nothing_odd_is_a_tower(self):
        for thing in ODD_THINGS:
            if thing not in ((), []):
                with self.assertRaises(BadTower):
                    Tower(thing, thing)
            with self.assertRaises(BadTower):
                Tower(("x",), (thing,))


if __name__ == "__main__":
    unittest.main()
