"""[1.14]: texts of systems and towers."""

import unittest

from neverfactored.errors import BadSystem, BadText, TooMany
from neverfactored.systems import System
from neverfactored.systemtext import read_system, system_text, tower_text
from tests.support import Case, dice_of, p, some_tower, system, tower


class TextTest(Case):

    def test_of_a_system(self):
        self.assertEqual(system_text(system("x: x**2 - 2")), "x: x**2 - 2")
        self.assertEqual(system_text(system("x: x**2 - 2", "y1: y1**2 - x**3*y1 + 1/2")),
                         "x: x**2 - 2\ny1: y1**2 - x**3*y1 + 1/2")

    def test_of_a_free_one(self):
        self.assertEqual(system_text(system("x: x**2 - t", "y: y - x*t + 1", free=True)),
                         "free t\nx: x**2 - t\ny: y - x*t + 1")
        self.assertEqual(system_text(system("x: x", free=True)), "free t\nx: x")

    def test_of_a_special_one(self):
        one = system("x: x**2 - t", "y: y - x*t + t**2", free=True).special(p("t**3 - 2"))
        self.assertEqual(system_text(one), "t: t**3 - 2\nx: x**2 - t\ny: y - t*x + t**2")

    def test_of_a_tower(self):
        self.assertEqual(tower_text(tower("x: x**2 - t", "y: y - (1)/(t)*x")), "x: x**2 - t\ny: y + (-1)/(t)*x")
        self.assertEqual(tower_text(tower("t: t**2 - 2", "x: x - t")), "t: t**2 - 2\nx: x - t")
        self.assertEqual(tower_text(tower("x: x")), "x: x")
        self.assertEqual(tower_text(tower()), "")


class ReadingTest(Case):

    def test_read_back(self):
        for one in (system("x: x**2 - 2"), system("x: x**2 - 2", "y1: y1**2 - x**3*y1 + 1/2"),
                    system("x: x", "y: y**6", "z: z**4 - x**6*y**6*z + 1/2*x"),
                    system("x: x**2 - t", "y: y - x*t**3 + 1", free=True), system("x: x**2 - 2", free=True)):
            found = read_system(system_text(one))
            self.assertIs(found.__class__, System)
            self.assertEqual(found, one)
            self.assertIs(found.free, one.free)

    def test_some_are_read_back(self):
        dice = dice_of(113)
        for degrees in ((3,), (2, 2), (2, 3, 2)):
            for _ in range(10):
                found = some_tower(dice, degrees)
                one = System(found.letters, found.equations)
                self.assertEqual(read_system(system_text(one)), one)
                self.assertEqual(tower_text(found), system_text(one))

    def test_blanks_and_blank_lines(self):
        told = system("x: x**2 - 2", "y: y**2 - x")
        for text in ("x: x**2 - 2\ny: y**2 - x", "x:x**2-2\ny:y**2-x", "  x  :  x ** 2 - 2  \n   y   :y**2-x   ",
                     "\n\nx: x**2 - 2\n   \n\ny: y**2 - x\n", "x: x**2 - 2\ny: y**2 - x\n   \n \n"):
            self.assertEqual(read_system(text), told)

    def test_the_free_line(self):
        told = system("x: x**2 - t", "y: y - x", free=True)
        for text in ("free t\nx: x**2 - t\ny: y - x", "  free t  \nx: x**2 - t\ny: y - x",
                     "\n   \nfree t\n\nx: x**2 - t\ny: y - x\n"):
            self.assertEqual(read_system(text), told)
        self.assertEqual(read_system("free t\nx: x**2 - (t**2 - 1)/(t - 1)"), system("x: x**2 - t - 1", free=True))

    def test_letters_told_so_far_and_its_own(self):
        self.assertEqual(read_system("y: y**2 - 2\nx: x - y\nt1: t1 - x*y"),
                         system("y: y**2 - 2", "x: x - y", "t1: t1 - x*y"))

    def test_letters_and_blanks_alone_are_cut_off(self):
        self.assertEqual(read_system("q: q**2 - 2\nr: r - q\nn: n"), system("q: q**2 - 2", "r: r - q", "n: n"))

    def test_like_terms(self):
        self.assertEqual(read_system("x: x*x - 1 - 1"), system("x: x**2 - 2"))


class WrongTextTest(Case):

    def refuses(self, line, what, text):
        self.refused(BadText, {"line": line, "what": what}, read_system, text)

    def test_no_colon(self):
        for text in ("x", "x**2 - 2", "free", "t", "free t t", "freet", "FREE t", "free  t", "x; x", "\t", "free\tt"):
            self.refuses(0, "sign", text)
            self.refuses(1, "sign", "x: x\n" + text)

    def test_the_free_line_elsewhere(self):
        self.refuses(1, "sign", "x: x\nfree t")
        self.refuses(1, "sign", "free t\nfree t\nx: x")
        self.refuses(2, "sign", "free t\nx: x\nfree t")

    def test_letters(self):
        for head in ("t", "xy", "X", "", "  ", "x0", "1", "x y", "x**2", "free t", "t0", "x\t", "-x", "\u00e9"):
            self.refuses(0, "letter", head + ": x**2 - 2")
            self.refuses(1, "letter", "z: z\n" + head + ": x")
        self.refuses(1, "letter", "x: x**2 - 2\nx: x")
        self.refuses(2, "letter", "x: x\ny: y\n x : x - 1")

    def test_letters_that_are_not_yet_told(self):
        self.refuses(0, "letter", "x: x - y\ny: y**2 - 2")
        self.refuses(1, "letter", "x: x\ny: y - z\nz: z")

    def test_t_where_it_is_not_free(self):
        self.refuses(0, "letter", "x: x**2 - t")
        self.refuses(0, "sign", "x: x**2 - (1)/(t)")
        self.refuses(1, "letter", "x: x\ny: y + t*x")
        self.refuses(1, "sign", "x: x\ny: (1)/(2)*y")

    def test_equations(self):
        for text, what in (("", "end"), ("x -", "end"), ("x**", "end"), ("1/", "end"), ("z", "letter"),
                           ("x**100", "power"), ("x**y", "power"), ("1/0", "bottom"), ("05", "sign"), ("x y", "sign"),
                           ("x: x", "sign"), (":", "sign"), ("x**2 - 2\t", "sign"), ("x\r", "sign"), ("x,", "sign"),
                           ("+x", "sign"), ("1" * 301, "sign")):
            self.refuses(0, what, "x:" + text)
            self.refuses(2, what, "y: y\nz1: z1\nx:" + text)
            self.refuses(1, what, "free t\nx:" + text)

    def test_equations_with_the_free_letter(self):
        self.refuses(1, "bottom", "free t\nx: x + (t)/(t - t)")
        self.refuses(1, "bottom", "free t\nx: x + (t)/(0)")
        self.refuses(1, "letter", "free t\nx: x + (x)/(t)")
        self.refuses(1, "end", "free t\nx: x + (t)")
        self.refuses(2, "sign", "free t\nx: x - t\ny: y + (t)/2")

    def test_blank_lines_are_not_counted(self):
        self.refuses(0, "letter", "\n  \n\nz: x")
        self.refuses(1, "end", "\nx: x\n\n   \n\ny: \n")
        self.refuses(2, "sign", "\nfree t\n\nx: x\n \ny = 5")

    def test_the_first_wrong_line_is_told(self):
        self.refuses(0, "end", "x:\ny\nz: $")
        self.refuses(1, "sign", "x: x\ny\nt: t\n: ")
        self.refuses(1, "letter", "x: x\nt y\nz".replace("t y", "t: $"))
        self.refuses(2, "power", "x: x\ny: y\nz: z**x\nu: u\nv: v\nfree t")

    def test_the_first_word_of_a_line_is_told(self):
        self.refuses(0, "sign", "XY")
        self.refuses(0, "letter", "XY: $")
        self.refuses(1, "letter", "x: x\nx: $")

    def test_what_is_wrong_as_a_text_comes_ahead_of_what_is_no_system(self):
        self.refuses(1, "sign", "x: 2*x\ny: y y")
        self.refuses(4, "end", "x: x\ny: y\nz: z\nu: u\nv:")

    def test_what_can_be_read_and_is_no_system(self):
        for text, what, place in (("", "letters", 0), ("  \n \n", "letters", 0), ("free t", "letters", 0),
                                  ("x: x\ny: y\nz: z\nu: u", "letters", 0), ("x: 2*x", "monic", 0), ("x: 0", "monic", 0),
                                  ("x: x\ny: x", "monic", 1), ("x: x**7", "degree", 0), ("x: x\ny: y - x**7", "degree", 1),
                                  ("free t\nx: x - t**4", "free", 0), ("free t\nx: x\ny: y - (1)/(t)", "free", 1),
                                  ("free t\nx: t*x", "monic", 0), ("x: x**7\ny: 2*y", "degree", 0)):
            self.refused(BadSystem, {"what": what, "place": place}, read_system, text)
        self.refused(TooMany, {"most": 24}, read_system, "x: x**5\ny: y**5")
        self.refused(TooMany, {"most": 8}, read_system, "free t\nx: x**3\ny: y**3")

    def test_special_ones_are_not_read_back(self):
        self.refuses(0, "letter", system_text(system("t: t**2 - 2", "x: x - t", special=True)))


if __name__ == "__main__":
    unittest.main()
