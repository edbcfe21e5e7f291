"""[9.4], [9.5]: sets of numbers for the free letter, and their operators."""

import unittest

from neverfactored.errors import BadLot
from neverfactored.freelots import FreeLot
from neverfactored.polys import poly_times
from tests.support import ODD_THINGS, Case, dice_of, p

ONE = ((1, 1),)
NUMBERS = [(top, 1) for top in range(-4, 5)] + [(1, 2), (-3, 2), (7, 3)]


def linear_product(numbers):
    """Return the poly with these roots."""
    product = ONE
    for top, bottom in numbers:
        product = poly_times(product, ((-top, bottom), (1, 1)))
    return product


def some_lot(dice):
    """Return a free lot by dice and those of the numbers that are in it."""
    roots = sorted(dice.sample(NUMBERS, dice.randint(0, 4)))
    if dice.random() < 0.5:
        return FreeLot("roots", linear_product(roots)), set(roots)
    return FreeLot("all but", linear_product(roots)), set(NUMBERS) - set(roots)


class LotTest(Case):

    def test_attributes(self):
        lot = FreeLot("all but", p("t**2 - 2"))
        self.assertEqual(vars(lot), {"kind": "all but", "poly": p("t**2 - 2")})
        self.same(lot.poly, p("t**2 - 2"))
        for kind in ("roots", "all but"):
            self.assertEqual(vars(FreeLot(kind, ONE)), {"kind": kind, "poly": ONE})

    def test_kind(self):
        for thing in (*ODD_THINGS, "root", "all", "Roots", " roots", "all  but", ("roots",), ["all but"]):
            self.refused(BadLot, {"what": "kind"}, FreeLot, thing, p("t"))
            self.refused(BadLot, {"what": "kind"}, FreeLot, thing, None)

    def test_poly(self):
        for thing in (*[thing for thing in ODD_THINGS if thing != ()], (), [(1, 1)], list(p("t - 1")), p("2*t"),
                      p("2"), p("-t + 1"), p("t**2"), p("t**3 - 3*t + 2"), ((2, 2),), ((1, 1), (0, 1)),
                      ((0, 1), (True, 1)), ((0, 1), [1, 1]), poly_times(p("t**2 - 2"), p("t**2 - 2"))):
            for kind in ("roots", "all but"):
                self.refused(BadLot, {"what": "poly"}, FreeLot, kind, thing)

    def test_equal(self):
        one = FreeLot("roots", p("t**2 - 2"))
        self.assertTrue(one == FreeLot("roots", p("t**2 - 2")))
        self.assertFalse(one == FreeLot("all but", p("t**2 - 2")))
        self.assertFalse(one == FreeLot("roots", p("t**2 - 3")))
        self.assertFalse(FreeLot("roots", ONE) == FreeLot("all but", ONE))


class OperatorsTest(Case):

    def test_at_numbers(self):
        dice = dice_of(631)
        for _ in range(150):
            (one, numbers), (other, more) = some_lot(dice), some_lot(dice)
            kept = (one.kind, one.poly, other.kind, other.poly)
            for lot, told in ((one, numbers), (one & other, numbers & more), (one | other, numbers | more),
                              (~one, set(NUMBERS) - numbers)):
                self.assertIsInstance(lot, FreeLot)
                for number in NUMBERS:
                    self.assertIs(number in lot, number in told)
            self.assertEqual((one.kind, one.poly, other.kind, other.poly), kept)
            self.assertTrue(~(one & other) == ~one | ~other)
            self.assertTrue(~~one == one)
            self.assertTrue(one & other == other & one and one | other == other | one)

    def test_polys_with_common_roots_that_are_no_ratios(self):
        left, right = p("t**3 - 2*t"), p("t**3 - t**2 - 2*t + 2")
        for kind, other, met, joined in (
                ("roots", "roots", ("roots", "t**2 - 2"), ("roots", "t**4 - t**3 - 2*t**2 + 2*t")),
                ("roots", "all but", ("roots", "t"), ("all but", "t - 1")),
                ("all but", "roots", ("roots", "t - 1"), ("all but", "t")),
                ("all but", "all but", ("all but", "t**4 - t**3 - 2*t**2 + 2*t"), ("all but", "t**2 - 2"))):
            one, two = FreeLot(kind, left), FreeLot(other, right)
            self.assertTrue(one & two == FreeLot(met[0], p(met[1])))
            self.assertTrue(one | two == FreeLot(joined[0], p(joined[1])))

    def test_polys_without_common_roots(self):
        one, two = FreeLot("roots", p("t**2 - 2")), FreeLot("roots", p("t**2 - 3"))
        self.assertTrue(one & two == FreeLot("roots", ONE))
        self.assertTrue(one | two == FreeLot("roots", p("t**4 - 5*t**2 + 6")))
        self.assertTrue(one & ~two == one)
        self.assertTrue(~one | ~two == FreeLot("all but", ONE))
        self.assertTrue(~one & ~two == FreeLot("all but", p("t**4 - 5*t**2 + 6")))

    def test_none_and_all(self):
        none, whole = FreeLot("roots", ONE), FreeLot("all but", ONE)
        self.assertTrue(~none == whole and ~whole == none)
        for lot in (none, whole, FreeLot("roots", p("t**2 - 2")), FreeLot("all but", p("t"))):
            self.assertTrue(lot & none == none and lot | none == lot)
            self.assertTrue(lot & whole == lot and lot | whole == whole)
            self.assertTrue(lot & ~lot == none and lot | ~lot == whole)
        for number in NUMBERS:
            self.assertIs(number in none, False)
            self.assertIs(number in whole, True)

    def test_operands_stay(self):
        one, two = FreeLot("roots", p("t**2 - 2")), FreeLot("all but", p("t"))
        for _ in (one & two, one | two, ~one, ~two):
            self.assertEqual((vars(one), vars(two)),
                             ({"kind": "roots", "poly": p("t**2 - 2")}, {"kind": "all but", "poly": p("t")}))
        third = one
        third &= two
        self.assertEqual(vars(one), {"kind": "roots", "poly": p("t**2 - 2")})


if __name__ == "__main__":
    unittest.main()
