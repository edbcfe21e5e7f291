"""[1.11] to [1.13]: texts of elements and of polys."""

import unittest

from neverfactored.element import is_element
from neverfactored.elementtext import element_text, poly_text, read_element, read_poly
from neverfactored.errors import BadText
from tests.support import Case, dice_of, e, some_element, some_poly

POLY_ONE = ((1, 1),)
ONE = (((1, 1),), ((1, 1),))


def constant(*ratios):
    """Return the quotient that is the poly with these coefficients."""
    return (ratios, POLY_ONE)


class TextTest(Case):

    def test_the_examples(self):
        one = (((0, 0), constant((3, 1), (-1, 2))), ((2, 1), ONE))
        self.assertEqual(element_text(one, ("x", "y")), "x**2*y - 1/2*t + 3")
        other = (((1, 0), (((1, 1), (1, 1)), ((-2, 1), (0, 1), (1, 1)))), ((0, 1), ONE))
        self.assertEqual(element_text(other, ["x", "y"]), "y + (t + 1)/(t**2 - 2)*x")

    def test_nought_and_ones(self):
        self.assertEqual(element_text((), ("x", "y")), "0")
        self.assertEqual(element_text((), ()), "0")
        self.assertEqual(element_text((((0, 0), ONE),), ("x", "y")), "1")
        self.assertEqual(element_text((((0, 0), constant((-1, 1))),), ("x", "y")), "-1")
        self.assertEqual(element_text((((), constant((-7, 3))),), ()), "-7/3")

    def test_a_ratio_of_1_and_of_less_ahead_of_letters(self):
        self.assertEqual(element_text((((1, 0), ONE),), ("x", "y")), "x")
        self.assertEqual(element_text((((1, 3), ONE),), ("x", "y")), "x*y**3")
        self.assertEqual(element_text((((1, 0), constant((-1, 1))),), ("x", "y")), "-x")
        self.assertEqual(element_text((((1, 0), constant((-1, 1))), ((0, 1), ONE)), ("x", "y")), "y - x")
        self.assertEqual(element_text((((0, 0), constant((0, 1), (1, 1))),), ("x", "y")), "t")
        self.assertEqual(element_text((((0, 0), constant((-1, 1), (1, 1))), ((0, 2), ONE)), ("x", "y")), "y**2 + t - 1")

    def test_a_first_ratio_below_0(self):
        self.assertEqual(element_text((((0, 1), constant((-3, 2))),), ("x", "y")), "-3/2*y")
        self.assertEqual(element_text((((0, 0), constant((5, 1))), ((0, 1), constant((-2, 1)))), ("x", "y")),
                         "-2*y + 5")

    def test_tops_of_several_powers_of_t(self):
        one = (((1, 0), constant((-1, 1), (0, 1), (2, 1), (-1, 1))),)
        self.assertEqual(element_text(one, ("x", "y")), "-x*t**3 + 2*x*t**2 - x")
        self.assertEqual(element_text((((0, 0), constant((1, 2), (-1, 1), (1, 3))),), ("x", "y")),
                         "1/3*t**2 - t + 1/2")

    def test_bottoms_alone_and_with_letters(self):
        over = ((1, 1),), ((0, 1), (1, 1))
        self.assertEqual(element_text((((0, 0), over),), ("x", "y")), "(1)/(t)")
        self.assertEqual(element_text((((2, 1), over),), ("x", "y")), "(1)/(t)*x**2*y")
        less = ((-1, 2), (-1, 1)), ((1, 1), (0, 1), (1, 1))
        self.assertEqual(element_text((((0, 0), less), ((1, 0), less), ((0, 1), ONE)), ("x", "y")),
                         "y + (-t - 1/2)/(t**2 + 1)*x + (-t - 1/2)/(t**2 + 1)")
        self.assertEqual(element_text((((0, 0), over), ((1, 0), constant((-1, 1)))), ("x", "y")), "-x + (1)/(t)")
        self.assertEqual(element_text((((0, 0), constant((-1, 1))), ((1, 0), over)), ("x", "y")), "(1)/(t)*x - 1")

    def test_the_couples_stand_from_the_last_to_the_first(self):
        one = tuple((exponents, ONE) for exponents in ((0, 0), (1, 0), (2, 0), (0, 1), (1, 1), (0, 2)))
        self.assertEqual(element_text(one, ("x", "y")), "y**2 + x*y + y + x**2 + x + 1")

    def test_t_among_the_letters(self):
        one = (((0, 0), constant((-2, 1))), ((2, 0), ONE), ((1, 1), constant((1, 2))))
        self.assertEqual(element_text(one, ("t", "x")), "1/2*t*x + t**2 - 2")

    def test_letters_with_digits(self):
        self.assertEqual(element_text((((2, 1), ONE),), ("t1", "x9")), "t1**2*x9")

    def test_polys(self):
        self.assertEqual(poly_text(()), "0")
        self.assertEqual(poly_text(POLY_ONE), "1")
        self.assertEqual(poly_text(((-1, 1),)), "-1")
        self.assertEqual(poly_text(((3, 1), (-1, 2), (0, 1), (1, 1))), "t**3 - 1/2*t + 3")
        self.assertEqual(poly_text(((3, 1), (-1, 2), (0, 1), (-1, 1)), "v"), "-v**3 - 1/2*v + 3")
        self.assertEqual(poly_text(((0, 1), (1, 1)), letter="x1"), "x1")


class ReadingTest(Case):

    def test_each_text_is_read_back(self):
        for text in ("x**2*y - 1/2*t + 3", "y + (t + 1)/(t**2 - 2)*x", "0", "1", "-1", "-x", "-3/2*y", "x*y**3",
                     "-x*t**3 + 2*x*t**2 - x", "(1)/(t)", "(1)/(t)*x**2*y", "(1)/(t)*x - 1", "-x + (1)/(t)",
                     "y + (-t - 1/2)/(t**2 + 1)*x + (-t - 1/2)/(t**2 + 1)", "t", "x**99*y**99*t**99",
                     "y**2 + x*y + y + x**2 + x + 1"):
            self.assertEqual(element_text(read_element(text, ("x", "y")), ("x", "y")), text)

    def test_each_element_is_read_back(self):
        dice = dice_of(59)
        for letters in ((), ("x",), ("x", "y1"), ["t1", "x", "y"]):
            for _ in range(40):
                one = some_element(dice, len(letters), terms=5)
                found = read_element(element_text(one, letters), letters)
                self.same(found, one)

    def test_each_poly_is_read_back(self):
        dice = dice_of(61)
        for letter in ("t", "v", "x1"):
            for _ in range(40):
                one = some_poly(dice, 6)
                self.same(read_poly(poly_text(one, letter), letter), one)

    def test_what_is_read(self):
        self.same(read_element("x**2 - 1/2*t", ("x", "y")), (((0, 0), constant((0, 1), (-1, 2))), ((2, 0), ONE)))
        self.same(read_element("(t)/(t**2)*y", ["x", "y"]), (((0, 1), (POLY_ONE, ((0, 1), (1, 1)))),))
        self.same(read_element("-4/6", ()), (((), constant((-2, 3))),))
        self.same(read_element("-(t + 1)/(2)", ()), (((), constant((-1, 2), (-1, 2))),))
        self.same(read_poly("t**2 - 1/2"), ((-1, 2), (0, 1), (1, 1)))
        self.same(read_poly("0"), ())
        self.same(read_poly("v - v", "v"), ())
        self.same(read_poly("7"), ((7, 1),))

    def test_blanks(self):
        told = e("x**2*y - 1/2*t + 3")
        for text in ("x**2*y-1/2*t+3", "  x  **  2  *  y  -  1  /  2  *  t  +  3  ", "x** 2*y - 1 /2*t + 3"):
            self.same(read_element(text, ("x", "y")), told)
        self.same(read_element(" ( t + 1 ) / ( t ) * x", ("x", "y")), e("(t + 1)/(t)*x"))
        self.same(read_poly("  t ** 2 ", "t"), ((0, 1), (0, 1), (1, 1)))
        self.same(read_element("- x", ("x",)), read_element("-x", ("x",)))

    def test_like_factors_and_like_terms(self):
        self.same(e("x*y*x**3*x"), e("x**5*y"))
        self.same(e("2*x*1/2*3*t*t**2"), e("3*x*t**3"))
        self.same(e("x + y + x - 3*y + 1 + 1"), e("2*x - 2*y + 2"))
        self.same(e("x - x"), ())
        self.same(e("(1)/(t)*t*x"), e("x"))
        self.same(e("(1)/(t)*(1)/(t + 1)"), e("(1)/(t**2 + t)"))
        self.same(e("(t + t - 1 + 1)/(t*t)"), e("(2)/(t)"))
        self.same(e("x**60*x**60"), e("x**99*x**21"))
        self.same(read_poly("v*v*2 - v**2", "v"), ((0, 1), (0, 1), (1, 1)))

    def test_power_0_and_factor_0(self):
        self.same(e("x**0"), e("1"))
        self.same(e("x**0*t**0*5"), e("5"))
        self.same(e("0*x + 0/7"), ())

    def test_numbers(self):
        self.same(e("10*x"), (((1, 0), constant((10, 1))),))
        self.same(e("9" * 300, ()), (((), constant((int("9" * 300), 1))),))
        self.same(e("1/" + "9" * 300, ()), (((), constant((1, int("9" * 300)))),))

    def test_t_among_the_letters(self):
        self.same(read_element("t**2 - x", ("t", "x")), (((2, 0), ONE), ((0, 1), constant((-1, 1)))))
        self.same(read_element("t**2 - x", ("t", "x"), True), read_element("t**2 - x", ("t", "x"), False))
        for text in ("(t)/(t + 1)", "(1)/(2)"):
            self.refused(BadText, {"line": 0, "what": "sign"}, read_element, text, ("t", "x"))

    def test_t_is_not_free(self):
        self.same(read_element("x**2 - 2", ("x",), False), e("x**2 - 2", "x"))
        self.refused(BadText, {"line": 0, "what": "letter"}, read_element, "x + t", ("x",), False)
        self.refused(BadText, {"line": 0, "what": "letter"}, read_element, "t", ("x",), free=False)
        self.refused(BadText, {"line": 0, "what": "sign"}, read_element, "(1)/(2)", ("x",), False)
        self.refused(BadText, {"line": 0, "what": "sign"}, read_element, "x + (t)/(t)", ("x",), False)

    def test_polys_have_no_brackets(self):
        for text in ("(t)/(t + 1)", "(1)/(2)", "t + (t)", "(t", "("):
            self.refused(BadText, {"line": 0, "what": "sign"}, read_poly, text)
            self.refused(BadText, {"line": 0, "what": "sign"}, read_poly, text.replace("t", "v"), "v")

    def test_polys_have_one_letter(self):
        for text, letter in (("x", "t"), ("t", "v"), ("v + t", "v"), ("t1", "t"), ("2*x", "t")):
            self.refused(BadText, {"line": 0, "what": "letter"}, read_poly, text, letter)


class WrongTextTest(Case):

    def told(self, what, *texts):
        """Check that each text over x, y and the free t is refused by the word."""
        for text in texts:
            with self.subTest(text=text[:40]):
                self.refused(BadText, {"line": 0, "what": what}, read_element, text, ("x", "y"))

    def test_end(self):
        self.told("end", "", "   ", "-", "x +", "x -", "x*", "2 *", "x**", "t ** ", "1/", "x + 1/ ")

    def test_end_in_brackets(self):
        self.told("end", "(", "(-", "(t", "(t + ", "(t*", "(t**", "(1/", "(1/2", "(t)", "(t) /", "(t)/(", "(t)/(t",
                  "(t)/(0", "(t)/(t - t", "x*(", "x - (t)")

    def test_letter(self):
        self.told("letter", "z", "-z", "x + z", "x - z", "x*z", "2*z", "xy", "x1", "x0", "t1", "tt", "x*t1", "z +",
                  "(1)/(t)*z")

    def test_letter_in_brackets(self):
        self.told("letter", "(x", "(x)/(t)", "(-x)", "(t + x)", "(t*y)", "(t)/(x)", "(t)/(t - y)", "(t1)/(t)")

    def test_power(self):
        self.told("power", "x**100", "x**05", "x**00", "x**-1", "x**x", "x**t", "x**(", "x***2", "x** *", "x**+2",
                  "x**/", "x**$", "x**X", "x**\t2", "x**.5", "t**100", "x**" + "9" * 301, "x**)", "x**=")

    def test_power_in_brackets(self):
        self.told("power", "(t**100)/(t)", "(t**t)", "(t)/(t**07)", "(t**)")

    def test_bottom(self):
        self.told("bottom", "1/0", "x + 1/0", "2*3/0", "-1/0", "1 / 0 + x", "1/0x", "0/0", "(1/0)/(t)", "(t)/(1/0)")

    def test_bottom_in_brackets(self):
        self.told("bottom", "(t)/(0)", "(t)/(t - t)", "(0)/(0)", "(t)/(0*t + 0)", "x + (t + 1)/(t - t)*y", "(t)/(0)$",
                  "(t)/( 2*t - t - t )")

    def test_nought_behind_the_stroke_of_a_bracket(self):
        self.told("bottom", "(t)/0", "x*(t + 1)/0")

    def test_sign_ahead_of_a_term_or_a_factor(self):
        self.told("sign", "+x", "--x", "- -x", "-+x", "x + -y", "x - -y", "x - +y", "x*-y", "x*+y", "*x", "/x", "**2",
                  ")", "x + )", "x + *y", "x* *2", "(+t)/(t)", "(t)/(--t)", "(t - -t)")

    def test_sign_of_two_factors_with_nothing_between(self):
        self.told("sign", "x y", "2 x", "2x", "x 2", "x**2 y", "x**2y", "2 3", "1/2 x", "(t)/(t) x", "(t)/(t)x", "2z",
                  "x z", "(t)/(t)(t)/(t)", "x(t)/(t)", "(t t)", "(2t)")

    def test_sign_of_powers_and_strokes_where_none_stands(self):
        self.told("sign", "2**3", "x**2**3", "(t)/(t)**2", "1/2**2", "x/2", "x/y", "x/0", "1/2/3", "1/2/0", "x**2/3",
                  "1/x", "1/t", "1/(t)", "1/-2", "1/z", "(t)/5", "(t)/t", "(t)/x", "(t)/-", "(t)/)", "(t)/05", "(t)t")

    def test_sign_of_brackets(self):
        self.told("sign", "x)", "(t))", "(t)*x", "(t) + 1", "(t)/(t))", "((t))/(t)", "(t*(t))", "()", "()/(t)",
                  "(t)/()", "(t)(t)")

    def test_sign_of_characters_that_are_not_allowed(self):
        self.told("sign", "X", "x + X", "x$", "$", "x\t", "\tx", "x\n", "x + \n", "x.y", "1.5", "x_1", "x=1", "[t]",
                  "x**2$", "\u00e9", "x\u00b2", "x\u00a0", "(t$", "(t)$", "(t)/$", "(t)/(t$", "1/$", "x,", "x^2", "!",
                  "\u0663", "2\u0663", "x:")

    def test_sign_of_numbers(self):
        self.told("sign", "05", "00", "x + 01", "007*x", "1/05", "1/00", "1" * 301, "x*" + "9" * 400, "1/" + "1" * 301,
                  "(05)", "(t)/(007)", "1" + "0" * 5000)

    def test_what_is_wrong_farther_right_is_not_yet_seen(self):
        self.told("letter", "z $", "z**100", "z/0", "x + z 05", "(x)/(0)")
        self.told("power", "x**z $", "x**100 + z", "x**05*1/0")
        self.told("bottom", "1/0 + z", "1/0$", "(t)/(t - t)*z", "(t)/(t - t)**2", "1/0 " + "1" * 301)
        self.told("sign", "x $ z", "x y**100", "2x/0", "+z", "05 + z", "1" * 301 + "*z", "x 1/0", "x/0", "x)", "x) z",
                  "((z", "$", "$ +", "(t)z", "(t) x**100")
        self.told("end", "x + ", "(t + 1")

    def test_polys_are_refused_alike(self):
        for text, what in (("", "end"), ("v**", "end"), ("v**100", "power"), ("v**x", "power"), ("1/0", "bottom"),
                           ("1/00", "sign"), ("+v", "sign"), ("v v", "sign"), ("2v", "sign"), ("w", "letter"),
                           ("v + W", "sign"), ("1" * 301, "sign"), ("v +", "end")):
            self.refused(BadText, {"line": 0, "what": what}, read_poly, text, "v")

    def test_long_texts(self):
        self.same(e("x + " * 3000 + "x"), e("3001*x"))
        self.same(e("2*" * 100 + "x"), (((1, 0), constant((2 ** 100, 1))),))
        self.told("sign", "-" * 5000 + "x", "(" * 5000)

    def test_read_ones_are_elements(self):
        self.assertTrue(is_element(e("y + (t + 1)/(t**2 - 2)*x + x*y**3"), 2))


if __name__ == "__main__":
    unittest.main()
