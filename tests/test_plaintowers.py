"""[3.8]: plain towers, and plain towers of systems."""

import unittest

from neverfactored.element import element_times, from_coefficients, widened
from neverfactored.errors import NotMonic
from neverfactored.notes import Notes
from neverfactored.plaintowers import doubled_letter, is_plain, plain_towers, plain_uppers
from neverfactored.polys import poly_common, poly_plain, poly_slope
from neverfactored.reducing import reduced
from neverfactored.systems import System, system_tower
from neverfactored.towers import tower_set_t
from neverfactored.uppers import trim_upper, upper_times
from tests.support import (
    SAMPLES, Case, dice_of, e, good_samples, is_noted, noted, p, points_of, some_root,
    split_tower, system, tower, u, upper_at, upper_set_t)

EMPTY = tower()
TWO = tower("x: x**2 - 2")


def some_monic(dice, one):
    """Return a product of letters less roots, as an upper poly, some roots double at some points."""
    many = len(one.letters)
    unit = widened(e("1", ()), many)
    found = (unit,)
    for _ in range(dice.randint(1, 3)):
        factor = (some_root(dice, many, False), unit)
        found = upper_times(one, found, factor)
        if dice.random() < 0.3:
            found = upper_times(one, found, factor)
    return found


class IsPlainTest(Case):

    def test_plain(self):
        for one in (EMPTY, TWO, tower("x: x"), tower("x: x**2 - 2", "y: y**2 - x"), tower("x: x**3 - x"),
                    tower("x: x - 5", "y: y - 2", "z: z**2 + 1"), tower("x: x**2 - t"), tower("x: x**2 - 2*t*x + 1"),
                    tower("x: x**2 - x", "y: y**2 - x*y - 2*y + 2*x - 1"), tower("t: t**2 - 3", "x: x**2 - t")):
            self.assertIs(is_plain(one), True)
            self.assertIsNone(doubled_letter(one))

    def test_not_plain(self):
        for place, one in ((0, tower("x: x**2")), (0, tower("x: x**2 - 2*x + 1", "y: y**2")),
                           (0, tower("x: x**3 - 3*x + 2")), (0, tower("x: x**2 - 2*t*x + t**2")),
                           (1, tower("x: x**2 - x", "y: y**2 - x")), (1, tower("x: x - 4", "y: y**2 - 4*y + 4")),
                           (1, tower("x: x**2 - 2", "y: y**2 - 2*x*y + 2")), (0, tower("x: x**4 - 4*x**2 + 4")),
                           (2, tower("x: x", "y: y**2 - y", "z: z**2 - 2*z + y")),
                           (2, tower("x: x**2 - 2", "y: y - 1", "z: z**3 - 3*x*z**2 + 6*z - 2*x"))):
            self.assertIs(is_plain(one), False)
            self.same(doubled_letter(one), place)

    def test_a_double_root_at_one_point_alone(self):
        one = tower("x: x**3 - 6*x**2 + 11*x - 6", "y: y**2 - 2*y + x - 2")
        self.same(doubled_letter(one), 1)
        self.assertIsNone(doubled_letter(tower("x: x**2 - 3*x + 2", "y: y**2 - 2*y + x - 2")))

    def test_by_dice(self):
        dice = dice_of(233)
        for _ in range(40):
            one, roots = split_tower(dice, dice.choice(((2,), (3, 2), (2, 2, 1), (1, 3))))
            self.assertTrue(is_plain(one))
            less = one.over(len(one.letters) - 1)
            upper = some_monic(dice, less)
            points = points_of(roots[:-1])
            single = all(poly_common(upper_at(upper, point), poly_slope(upper_at(upper, point))) == p("1")
                         for point in points)
            self.assertEqual(is_plain(less.with_equation("w", from_coefficients(upper))), single)


class PlainUppersTest(Case):

    def right_at(self, points, upper, found):
        """Check the results at points that are ratios."""
        self.are_parts(points, [part for part, _ in found])
        for part, plain in found:
            self.same(trim_upper(part, plain), plain)
            for point in self.whole_points(part, points):
                self.same(upper_at(plain, point), poly_plain(upper_at(upper, point)))

    def test_at_the_points(self):
        dice = dice_of(239)
        whole, parted = 0, 0
        for _ in range(60):
            one, roots = split_tower(dice, dice.choice(((2,), (3,), (2, 2), (1, 3), (2, 1, 2))))
            upper = some_monic(dice, one)
            found = plain_uppers(one, upper)
            self.assertIsInstance(found, tuple)
            points = points_of(roots)
            self.right_at(points, upper, found)
            if all(len(poly_plain(upper_at(upper, point))) == len(upper) for point in points):
                self.assertEqual(found, ((one, upper),))
                whole += 1
            parted += len(found) > 1
        self.assertGreater(min(whole, parted), 8)

    def test_exactly_the_passed_one_without_double_roots(self):
        self.assertEqual(plain_uppers(TWO, u("x", "0", "1")), ((TWO, u("x", "0", "1")),))
        self.assertEqual(plain_uppers(TWO, u("x**3", "x**2", "1", "0")), ((TWO, u("2*x", "2", "1")),))
        self.assertEqual(plain_uppers(TWO, [e("0", "x"), e("x**2 - 1", "x")]), ((TWO, u("0", "1")),))
        self.assertEqual(plain_uppers(EMPTY, u("-2", "0", "1", letters=())), ((EMPTY, u("-2", "0", "1", letters=())),))

    def test_double_roots(self):
        self.assertEqual(plain_uppers(EMPTY, u("0", "0", "1", letters=())), ((EMPTY, u("0", "1", letters=())),))
        self.assertEqual(plain_uppers(TWO, u("2", "-2*x", "1")), ((TWO, u("-x", "1")),))
        found = plain_uppers(tower("x: x**2 - x"), u("-x", "0", "1"))
        self.assertEqual(sorted((part.equations, plain) for part, plain in found),
                         sorted([(tower("x: x").equations, u("0", "1")),
                                 (tower("x: x - 1").equations, u("-1", "0", "1"))]))

    def test_not_monic(self):
        for upper in ((), u("1"), u("x"), u("x", "2"), u("x", "x"), u("1", "t"), u("x", "0"), u("x**2 - 1"),
                      u("0", "x**2 - 2")):
            self.refused(NotMonic, {}, plain_uppers, TWO, upper)
            self.refused(NotMonic, {}, plain_uppers, TWO, list(upper), Notes())
        self.refused(NotMonic, {}, plain_uppers, EMPTY, u("1", letters=()))

    def test_over_four_letters(self):
        one = tower("x: x**2 - x", "y: y", "z: z - 1", "u: u**2 - 2")
        upper = u("-x", "0", "1", letters="xyzu")
        found = plain_uppers(one, upper)
        self.assertEqual(sorted(len(plain) for _, plain in found), [2, 3])
        self.assertEqual(plain_uppers(one, u("-u", "0", "1", letters="xyzu")),
                         ((one, u("-u", "0", "1", letters="xyzu")),))

    def test_with_t(self):
        dice = dice_of(241)
        looked = 0
        for _ in range(15):
            one, roots = split_tower(dice, dice.choice(((2,), (1, 2), (2, 1))), with_t=True)
            upper = some_monic(dice, one)
            upper = upper_times(one, upper, (some_root(dice, len(one.letters), True), upper[-1]))
            found, notes = noted(plain_uppers, one, upper)
            for number in good_samples(notes, roots):
                at = tuple((tower_set_t(part, number), upper_set_t(plain, number)) for part, plain in found)
                self.right_at(points_of(roots, number), upper_set_t(upper, number), at)
                looked += 1
        self.assertGreater(looked, 60)

    def test_what_is_taken(self):
        notes = Notes()
        plain_uppers(EMPTY, u("-t", "0", "1", letters=()), notes)
        self.assertTrue(is_noted(notes, p("t")))
        plain_uppers(TWO, u("(1)/(t - 4)*x", "1"), notes)
        self.assertTrue(is_noted(notes, p("t - 4")))
        # This bottom falls when the upper poly is reduced.
        plain_uppers(TWO, u("(1)/(t - 6)*x**2 - (2)/(t - 6)", "1"), notes)
        self.assertTrue(is_noted(notes, p("t - 6")))
        notes = Notes()
        plain_uppers(TWO, u("-x", "0", "1"), notes)
        plain_uppers(TWO, u("2", "-2*x", "1"), notes)
        self.same(notes.polys, ())


class PlainTowersTest(Case):

    def test_one_tower_where_it_is_plain(self):
        for one in (system("x: x**2 - 3*x + 2"), system("x: x**2 - 2", "y: y**2 - x**3"), system("x: x"),
                    system("x: x**6 - 1", "y: y**2 - x**5*y + 3"), system("x: x**2 - t", "y: y**2 - x", free=True),
                    system("x: x - 1", "y: y - x", "z: z**3 - x*y*z + 7")):
            self.assertEqual(plain_towers(one), (system_tower(one),))

    def test_a_double_root_at_one_point(self):
        found = plain_towers(system("x: x**2 - x", "y: y**2 - x"))
        self.assertEqual(sorted(part.equations for part in found),
                         sorted([tower("x: x", "y: y").equations, tower("x: x - 1", "y: y**2 - 1").equations]))

    def test_double_roots_that_are_no_ratios(self):
        self.assertEqual(plain_towers(system("x: x**4 - 4*x**2 + 4")), (tower("x: x**2 - 2"),))
        self.assertEqual(plain_towers(system("x: x**4 - 4*x**2 + 4", "y: y**2 - 2*x*y + 2")),
                         (tower("x: x**2 - 2", "y: y - x"),))
        found = plain_towers(system("x: x**2 - 2", "y: y**2 - 2", "z: z**2 - 2*x*z + 2 + x - y"))
        self.assertEqual(sum(part.count for part in found), 6)
        self.assertEqual(sorted((part.equations for part in found if part.count == 2)),
                         [tower("x: x**2 - 2", "y: y - x", "z: z - x").equations])

    def test_three_letters(self):
        found = plain_towers(system("x: x**2", "y: y**3 - y**2", "z: z**2 - y*z"))
        points = [((0, 1), (0, 1), (0, 1)), ((0, 1), (1, 1), (0, 1)), ((0, 1), (1, 1), (1, 1))]
        self.are_parts(points, found)

    def test_systems_by_dice(self):
        dice = dice_of(251)
        for _ in range(30):
            one, roots = split_tower(dice, dice.choice(((2,), (2, 2), (3, 1))))
            equations = list(one.equations)
            if one.degrees[0] == 2:
                equations[0] = element_times(equations[0], equations[0])
            told = System(one.letters, equations)
            found = plain_towers(told)
            self.are_parts(points_of(roots), found)

    def test_a_special_system(self):
        told = system("t: t**2 - 2*t + 1", "x: x**2 - t**5", special=True)
        self.assertEqual(plain_towers(told), (tower("t: t - 1", "x: x**2 - 1"),))

    def test_with_t(self):
        told = system("x: x**2 - 2*t*x + t**2", "y: y**2 - x*y", free=True)
        found, notes = noted(plain_towers, told)
        self.assertEqual([part.equations for part in found], [tower("x: x - t", "y: y**2 - t*y").equations])
        self.assertTrue(is_noted(notes, p("t")))
        for number in good_samples(notes):
            at = [tower_set_t(part, number) for part in found]
            self.assertTrue(all(is_plain(part) for part in at))
            self.are_parts([(number, (0, 1)), (number, number)], at)

    def test_at_ratios_that_are_no_root(self):
        for told in (system("x: x**2 - t", free=True), system("x: x**3 - t*x**2", "y: y**2 - x - t", free=True),
                     system("x: x**2 - t**2", "y: y**2 - x*y + t*x - t*y", free=True)):
            found, notes = noted(plain_towers, told)
            good = good_samples(notes)
            self.assertGreater(len(good), 10)
            for number in good:
                parts = [tower_set_t(part, number) for part in found]
                self.assertTrue(all(is_plain(part) for part in parts))
                right = plain_towers(told.at_free(number))
                self.assertEqual(sum(part.count for part in parts), sum(part.count for part in right))
                for part in parts:
                    for equation in told.at_free(number).equations:
                        self.same(reduced(part, widened(equation, len(part.letters))), ())
            self.assertTrue(all(number not in good for number in SAMPLES if number == (0, 1)))

    def test_without_t_nothing_is_kept(self):
        self.same(noted(plain_towers, system("x: x**2 - x", "y: y**2 - 1/2*x"))[1].polys, ())


if __name__ == "__main__":
    unittest.main()
