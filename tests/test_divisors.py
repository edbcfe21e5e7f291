"""[3.2], [3.3], [3.4]: common divisors, zero parts and how an element is nought, with and without t."""

import unittest

from neverfactored.divisors import Divided, common_divisors, how_nought, zero_parts
from neverfactored.element import element_at, element_set_t
from neverfactored.notes import Notes
from neverfactored.polys import poly_common, poly_plus, poly_times
from neverfactored.reducing import reduced
from neverfactored.towers import tower_set_t
from neverfactored.uppers import trim_upper, upper_times
from tests.support import (
    Case, dice_of, e, good_samples, is_noted, noted, p, points_of, some_element, split_tower, tower, u, upper_at,
    upper_plus, upper_set_t, with_root)

EMPTY = tower()
TWO = tower("x: x**2 - 2")
CUBE = tower("x: x**2 - x", "y: y**2 - y", "z: z**2 - z")
SHAPES = ((2,), (4,), (1,), (2, 2), (3, 2), (1, 3), (2, 1, 2), (2, 2, 2))


def some_upper(dice, many, size=3):
    """Return an upper poly by dice, neither reduced nor trimmed."""
    return [some_element(dice, many, terms=2, with_t=False) for _ in range(dice.randint(0, size))]


def upper_with_t(dice, many, size=2):
    """Return a short upper poly by dice, with t."""
    return [some_element(dice, many, terms=2, power=1) for _ in range(dice.randint(0, size))]


class DividedTest(Case):

    def test_keeps_what_it_is_given(self):
        found = Divided(TWO, [e("x", "x")], [], list(u("1", "x")))
        self.assertEqual(vars(found), {"tower": TWO, "divisor": u("x"), "left": (), "right": u("1", "x")})
        self.assertEqual(vars(Divided("a", (), (1,), (2,))), {"tower": "a", "divisor": (), "left": (1,), "right": (2,)})

    def test_equal(self):
        one = Divided(TWO, u("1"), u("x"), ())
        self.assertTrue(one == Divided(tower("x: x**2 - 2"), u("1"), list(u("x")), []))
        self.assertFalse(one == Divided(tower("x: x**2 - 3"), u("1"), u("x"), ()))
        self.assertFalse(one == Divided(TWO, (), u("x"), ()))
        self.assertFalse(one == Divided(TWO, u("1"), (), ()))
        self.assertFalse(one == Divided(TWO, u("1"), u("x"), u("1")))


class CommonDivisorsTest(Case):

    def right_at(self, points, one, other, found):
        """Check the results at points that are ratios."""
        self.assertIsInstance(found, tuple)
        self.are_parts(points, [result.tower for result in found])
        for result in found:
            self.assertIsInstance(result, Divided)
            for upper in (result.divisor, result.left, result.right):
                self.same(trim_upper(result.tower, upper), upper)
            if result.divisor:
                self.same(result.divisor[-1], reduced(result.tower, e("1", result.tower.letters)))
            for point in self.whole_points(result.tower, points):
                left, right = upper_at(one, point), upper_at(other, point)
                divisor = upper_at(result.divisor, point)
                self.same(divisor, poly_common(left, right))
                self.same(poly_plus(poly_times(upper_at(result.left, point), left),
                                    poly_times(upper_at(result.right, point), right)), divisor)

    def test_at_the_points(self):
        dice = dice_of(211)
        parted = 0
        for turn in range(120):
            shape = SHAPES[turn % len(SHAPES)]
            one, roots = split_tower(dice, shape)
            left, right = some_upper(dice, len(shape)), some_upper(dice, len(shape))
            if turn % 2 == 0:
                shared = some_upper(dice, len(shape), 2)
                left, right = upper_times(one, left, shared), upper_times(one, right, shared)
            found = common_divisors(one, left, right)
            self.right_at(points_of(roots), left, right, found)
            parted += len(found) > 1
        self.assertGreater(parted, 20)

    def test_over_no_letter(self):
        left, right = u("-1", "0", "2", letters=()), u("1", "1", letters=())
        for one, other in ((left, right), (right, left), ((), left), (left, ()), ((), ()), (u("3", letters=()), left)):
            found = common_divisors(EMPTY, one, other)
            self.assertEqual(len(found), 1)
            self.assertEqual(found[0].tower, EMPTY)
            self.right_at([()], one, other, found)

    def test_nought_in_one_of_them_or_in_both(self):
        one = tower("x: x**2 - x")
        points = [((0, 1),), ((1, 1),)]
        for left, right in (((), ()), (u("x", "x"), ()), ((), u("x", "x")), (u("x", "x"), u("x")),
                            (u("x**2 - x", "0"), u("0")), (u("x", "1"), u("0", "x**2 - x"))):
            self.right_at(points, left, right, common_divisors(one, left, right))
        found = common_divisors(one, u("x", "x"), u("0", "x"))
        self.assertEqual({(str(result.tower.equations), result.divisor) for result in found},
                         {(str(tower("x: x").equations), ()), (str(tower("x: x - 1").equations), u("1"))})
        for result in common_divisors(TWO, (), [(), ()]):
            self.assertEqual((result.tower, result.divisor), (TWO, ()))

    def test_constants(self):
        for left, right in ((u("5"), ()), ((), u("x")), (u("x"), u("x + 1")), (u("x", "1"), u("7"))):
            found = common_divisors(TWO, left, right)
            self.assertEqual([(result.tower, result.divisor) for result in found], [(TWO, u("1"))])
            self.check_sum(found[0], left, right)

    def check_sum(self, result, one, other):
        """Check left * one + right * other over any part."""
        left = upper_times(result.tower, result.left, one)
        right = upper_times(result.tower, result.right, other)
        self.same(upper_plus(result.tower, left, right), result.divisor)

    def test_at_points_that_are_no_ratios(self):
        found = common_divisors(TWO, u("-2", "0", "1"), u("-x", "1"))
        self.assertEqual([(result.tower, result.divisor) for result in found], [(TWO, u("-x", "1"))])
        self.check_sum(found[0], u("-2", "0", "1"), u("-x", "1"))
        four = tower("x: x**4 - 5*x**2 + 6")
        one, other = u("-2", "0", "1"), u("x**3", "x**2")
        found = common_divisors(four, one, other)
        self.assertEqual(sorted((result.tower.equations, result.divisor) for result in found),
                         sorted([(tower("x: x**2 - 2").equations, u("x", "1")),
                                 (tower("x: x**2 - 3").equations, u("1"))]))
        for result in found:
            self.check_sum(result, one, other)

    def test_neither_reduced_nor_trimmed(self):
        one = tower("x: x**2 - x")
        left, right = [e("x**3", "x"), e("1", "x"), e("x**2 - x", "x"), ()], [e("x**5 - x**2", "x"), e("2*x**2", "x")]
        self.right_at([((0, 1),), ((1, 1),)], left, right, common_divisors(one, left, right))

    def test_nothing_that_is_passed_is_changed(self):
        left, right = list(u("x", "1", "0")), list(u("x**2", "x"))
        common_divisors(TWO, left, right, Notes())
        self.assertEqual((left, right), (list(u("x", "1", "0")), list(u("x**2", "x"))))

    def test_with_t(self):
        dice = dice_of(223)
        looked = 0
        for turn in range(25):
            shape = ((2,), (1,), (2, 1), (3,))[turn % 4]
            one, roots = split_tower(dice, shape, with_t=True)
            left, right = upper_with_t(dice, len(shape)), upper_with_t(dice, len(shape))
            if turn % 2 == 0:
                shared = upper_with_t(dice, len(shape))
                left, right = upper_times(one, left, shared), upper_times(one, right, shared)
            found, notes = noted(common_divisors, one, left, right)
            self.assertTrue(all(is_noted(notes, quotient[1])
                                for element in [*left, *right] for _, quotient in element))
            for number in good_samples(notes, roots):
                at = tuple(Divided(tower_set_t(result.tower, number), upper_set_t(result.divisor, number),
                                   upper_set_t(result.left, number), upper_set_t(result.right, number))
                           for result in found)
                self.right_at(points_of(roots, number), upper_set_t(left, number), upper_set_t(right, number), at)
                looked += 1
        self.assertGreater(looked, 100)


class HowNoughtTest(Case):

    def test_followed_by_hand(self):
        one = tower("x: x**2 - x")
        for text, told in (("0", "all"), ("x**2 - x", "all"), ("x**3 - x", "all"), ("x", "some"), ("x - 1", "some"),
                           ("x + 1", "none"), ("7", "none"), ("x**2 - x + 1", "none"), ("2*x**2 - 1", "none")):
            self.assertEqual(how_nought(one, e(text, "x")), told, text)

    def test_points_that_are_no_ratios(self):
        for text, told in (("x**2 - 2", "all"), ("x", "none"), ("x + 1", "none"), ("x**2 - 3", "none")):
            self.assertEqual(how_nought(TWO, e(text, "x")), told, text)
        two = tower("x: x**2 - 2", "y: y**2 - 2")
        for text, told in (("x - y", "some"), ("x + y", "some"), ("x**2 - y**2", "all"), ("x*y", "none")):
            self.assertEqual(how_nought(two, e(text)), told, text)

    def test_no_letter(self):
        self.assertEqual(how_nought(EMPTY, ()), "all")
        self.assertEqual(how_nought(EMPTY, e("3", ())), "none")
        self.assertEqual(how_nought(EMPTY, e("t", ())), "none")

    def test_numbers_of_many_kinds(self):
        # Multiples of a prime number are not 0, however large it is.
        for number in (2305843009213693951, 2 ** 89 - 1, 10 ** 40):
            self.assertEqual(how_nought(EMPTY, e(str(number), ())), "none")
            self.assertEqual(how_nought(TWO, e(str(number), "x")), "none")
            self.assertEqual(how_nought(TWO, e(f"{number}*x", "x")), "none")
            self.assertEqual(zero_parts(TWO, e(f"{number}*x + {number}", "x")), ((), (TWO,)))

    def test_with_t(self):
        one = tower("x: x**2 - t**2")
        for text, told in (("x - t", "some"), ("x**2 - t**2", "all"), ("x", "none"), ("x + (1)/(t)", "none")):
            self.assertEqual(how_nought(one, e(text, "x")), told, text)


class ZeroPartsTest(Case):

    def right_at(self, points, element, zeros, others):
        """Check zero parts at points that are ratios."""
        self.assertEqual((zeros.__class__, others.__class__), (tuple, tuple))
        self.are_parts(points, zeros + others)
        for parts, is_zero in ((zeros, True), (others, False)):
            for part in parts:
                for point in self.whole_points(part, points):
                    self.assertEqual(element_at(element, point) == (0, 1), is_zero)

    def test_at_the_points(self):
        dice = dice_of(227)
        told = {"all": 0, "none": 0, "some": 0}
        for turn in range(150):
            one, roots = split_tower(dice, SHAPES[turn % len(SHAPES)])
            many = len(one.letters)
            element = some_element(dice, many, terms=3, with_t=False)
            if turn % 3 == 0:
                element = with_root(dice, one.letters, roots)
            zeros, others = zero_parts(one, element)
            points = points_of(roots)
            self.right_at(points, element, zeros, others)
            noughts = len([point for point in points if element_at(element, point) == (0, 1)])
            word = "none" if noughts == 0 else "all" if noughts == len(points) else "some"
            told[word] += 1
            self.assertEqual(how_nought(one, element), word)
            if word == "all":
                self.assertEqual((zeros, others), ((one,), ()))
            if word == "none":
                self.assertEqual((zeros, others), ((), (one,)))
        self.assertGreater(min(told.values()), 10)

    def test_exactly_one_where_nothing_parts(self):
        # The first coefficients of these are 0 at some points, but the elements are not.
        one = tower("x: x**2 - x", "y: y**2 - 3*y + 2")
        for text in ("x*y - y + x", "x*y + 1", "x*y**2 + 1", "1", "t"):
            self.assertEqual(zero_parts(one, e(text)), ((), (one,)), text)
        for text in ("0", "x**2*y - x*y", "y**2 - 3*y + 2"):
            self.assertEqual(zero_parts(one, e(text)), ((one,), ()), text)

    def test_no_letter(self):
        self.assertEqual(zero_parts(EMPTY, ()), ((EMPTY,), ()))
        self.assertEqual(zero_parts(EMPTY, e("1/2", ())), ((), (EMPTY,)))

    def test_all_three_kinds_in_three_letters(self):
        points = [(x, y, z) for x in ((0, 1), (1, 1)) for y in ((0, 1), (1, 1)) for z in ((0, 1), (1, 1))]
        for text in ("z - x - y", "x*y*z", "x + y + z - 3", "x - y", "x*y - z", "x + y + z + 1", "x**5 - x"):
            element = e(text, CUBE.letters)
            zeros, others = zero_parts(CUBE, element)
            self.right_at(points, element, zeros, others)

    def test_points_that_are_no_ratios(self):
        one = tower("x: x**2 - 2", "y: y**2 - 2")
        self.assertEqual(zero_parts(one, e("y - x")),
                         ((tower("x: x**2 - 2", "y: y - x"),), (tower("x: x**2 - 2", "y: y + x"),)))
        self.assertEqual(zero_parts(tower("x: x**4 - 5*x**2 + 6"), e("x**2 - 2", "x")),
                         ((tower("x: x**2 - 2"),), (tower("x: x**2 - 3"),)))
        self.assertEqual(zero_parts(TWO, e("x + 1", "x")), ((), (TWO,)))

    def test_an_element_that_is_not_reduced(self):
        self.assertEqual(zero_parts(TWO, e("x**4 - 4", "x")), ((TWO,), ()))
        self.assertEqual(zero_parts(tower("x: x**2 - x"), e("x**7", "x")), ((tower("x: x"),), (tower("x: x - 1"),)))

    def test_with_t(self):
        dice = dice_of(229)
        looked = 0
        for turn in range(30):
            shape = ((2,), (3,), (2, 2), (1, 2))[turn % 4]
            one, roots = split_tower(dice, shape, with_t=True)
            element = some_element(dice, len(shape), terms=3, power=1)
            if turn % 2 == 0:
                element = with_root(dice, one.letters, roots)
            (zeros, others), notes = noted(zero_parts, one, element)
            for number in good_samples(notes, roots):
                self.right_at(points_of(roots, number), element_set_t(element, number),
                              tuple(tower_set_t(part, number) for part in zeros),
                              tuple(tower_set_t(part, number) for part in others))
                looked += 1
        self.assertGreater(looked, 200)

    def test_what_is_taken(self):
        one = tower("x: x**2 - t")
        notes = Notes()
        self.assertEqual(zero_parts(one, e("x - 1", "x"), notes), ((), (one,)))
        self.same(notes.joined, p("t - 1"))
        self.assertEqual(zero_parts(one, e("x - (1)/(t - 5)", "x"), notes), ((), (one,)))
        self.assertTrue(is_noted(notes, p("t - 5")) and is_noted(notes, p("t**3 - 10*t**2 + 25*t - 1")))
        self.assertTrue(is_noted(notes, p("t - 1")))

    def test_bottoms_are_taken_also_where_nothing_is_asked(self):
        one = tower("x: x**2 - (1)/(t - 3)")
        for element, told in (((), p("t - 3")), (e("x**2 - (1)/(t - 3)", "x"), p("t - 3")),
                              (e("(1)/(t + 7)*x**2 - (1)/(t**2 + 4*t - 21)", "x"), p("t**2 + 4*t - 21"))):
            notes = Notes()
            self.assertEqual(zero_parts(one, element, notes), ((one,), ()))
            self.same(notes.joined, told)

    def test_without_t_nothing_is_kept(self):
        notes = Notes()
        zero_parts(CUBE, e("x*y - z", CUBE.letters), notes)
        zero_parts(TWO, e("x + 1/2", "x"), notes)
        common_divisors(TWO, u("-2", "0", "1"), u("1/3*x", "1"), notes)
        self.same(notes.polys, ())


if __name__ == "__main__":
    unittest.main()
