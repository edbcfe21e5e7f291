"""[8.4], [8.10]: which values are taken at how many points."""

import unittest

from neverfactored.divisors import zero_parts
from neverfactored.element import constant_element, element_at, from_coefficients
from neverfactored.errors import HasFree
from neverfactored.polys import make_poly, poly_common, poly_degree, poly_plain, poly_plus, poly_power, poly_times
from neverfactored.quotients import ratio_quotient
from neverfactored.ratios import make_ratio, ratio_negative
from neverfactored.sums import full_equation, least_equation
from neverfactored.valuetables import rows_of_roots, value_table
from tests.support import Case, dice_of, e, p, points_of, some_element, split_tower, tower, with_root

ROOTS = tower("x: x**2 - 2", "y: y**2 - 2")
SHAPES = ((1,), (2,), (4,), (2, 2), (3, 2), (1, 3), (2, 2, 2), (2, 1, 2), (3, 2, 2))
OTHERS = (ROOTS, tower("x: x**3 - 2", "y: y**2 - x"), tower("x: x**2 + 1", "y: y**2 - x", "z: z**2 - x*y - 3"),
          tower("x: x**4 - 5*x**2 + 6"), tower("x: x**2 - 3*x + 1", "y: y**3 - x*y - 1"))


class TableTest(Case):

    def right_table(self, one, element):
        """Check what is said of all tables, and return the table."""
        rows = value_table(one, element)
        self.assertIs(rows.__class__, tuple)
        self.assertEqual([m for m, _ in rows], sorted({m for m, _ in rows}))
        full, least, points = p("1"), p("1"), 0
        for m, poly in rows:
            self.assertGreaterEqual(m, 1)
            self.assertGreaterEqual(poly_degree(poly), 1)
            self.same(poly, poly_plain(poly))
            self.same(poly_common(poly, least), p("1"))
            full = poly_times(full, poly_power(poly, m))
            least = poly_times(least, poly)
            points += m * poly_degree(poly)
        self.same(full, full_equation(one, element))
        self.same(least, least_equation(one, element))
        self.assertEqual(points, one.count)
        return rows

    def test_values_that_are_ratios(self):
        dice = dice_of(601)
        several = 0
        for turn in range(80):
            one, roots = split_tower(dice, SHAPES[turn % len(SHAPES)])
            element = some_element(dice, len(one.letters), terms=2, power=1, with_t=False)
            if turn % 3 == 0:
                element = with_root(dice, one.letters, roots)
            values = [element_at(element, point) for point in points_of(roots)]
            polys = {}
            for value in set(values):
                m = values.count(value)
                polys[m] = poly_times(polys.get(m, p("1")), (ratio_negative(value), (1, 1)))
            self.same(self.right_table(one, element), tuple(sorted(polys.items())))
            several += len(polys) > 1
        self.assertGreater(several, 15)

    def test_points_that_are_no_ratios(self):
        dice = dice_of(607)
        for turn in range(40):
            one = OTHERS[turn % len(OTHERS)]
            self.right_table(one, some_element(dice, len(one.letters), terms=2, power=2, with_t=False))

    def test_of_8_10(self):
        self.same(value_table(ROOTS, e("x + y")), ((1, ((-8, 1), (0, 1), (1, 1))), (2, ((0, 1), (1, 1)))))

    def test_followed_by_hand(self):
        self.same(value_table(ROOTS, e("x")), ((2, p("t**2 - 2")),))
        self.same(value_table(ROOTS, e("x*y")), ((2, p("t**2 - 4")),))
        self.same(value_table(ROOTS, e("5")), ((4, p("t - 5")),))
        self.same(value_table(ROOTS, ()), ((4, p("t")),))
        self.same(value_table(tower(), e("5", ())), ((1, p("t - 5")),))
        # 0 is taken at one point, 2 at two, 3 at three.
        one = tower("x: x**6 - 15*x**5 + 85*x**4 - 225*x**3 + 274*x**2 - 120*x")
        values = {0: 0, 1: 2, 2: 2, 3: 3, 4: 3, 5: 3}
        self.same(value_table(one, through(values)), ((1, p("t")), (2, p("t - 2")), (3, p("t - 3"))))

    def test_however_the_tower_is_parted(self):
        zeros, others = zero_parts(ROOTS, e("x - y"))
        full = p("1")
        for part in zeros + others:
            full = poly_times(full, full_equation(part, e("x + y")))
        self.same(rows_of_roots(full), value_table(ROOTS, e("x + y")))

    def test_the_free_letter(self):
        self.refused(HasFree, {}, value_table, tower("x: x - t"), ())
        self.refused(HasFree, {}, value_table, tower("x: x"), e("t*x", "x"))


class RootsTest(Case):

    def test_rows_of_roots(self):
        self.same(rows_of_roots(p("1")), ())
        self.same(rows_of_roots(p("t**3")), ((3, p("t")),))
        told = poly_times(poly_power(p("t**2 - 2"), 4), poly_times(p("t + 1"), poly_power(p("t**2 + 5"), 2)))
        self.same(rows_of_roots(told), ((1, p("t + 1")), (2, p("t**2 + 5")), (4, p("t**2 - 2"))))


def through(values):
    """Return the element over x that has these values where x is these numbers, by the way of Lagrange."""
    total = ()
    for number, value in values.items():
        term = make_poly([(value, 1)])
        for other in values:
            if other != number:
                term = poly_times(term, (make_ratio(-other, number - other), make_ratio(1, number - other)))
        total = poly_plus(total, term)
    return from_coefficients([constant_element(ratio_quotient(ratio), 0) for ratio in total])


if __name__ == "__main__":
    unittest.main()
