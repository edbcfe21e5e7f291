"""[4.8] to [4.11]: texts of programs and expressions, and programs of texts."""

import unittest

from neverfactored.errors import BadProgram
from neverfactored.programs import Program
from neverfactored.programtext import expression_text, program_text, read_program
from tests.support import Case, dice_of

X, Y, ONE, TWO = ("letter", "x"), ("letter", "y"), ("number", 1), ("number", 2)


def some_expression(dice, height):
    """Return an expression by dice."""
    if height == 1 or dice.random() < 0.2:
        return dice.choice((X, ("letter", "t"), ("letter", "a3"), ("number", dice.randint(0, 12)), ("name", "aa")))
    kind = dice.choice(("plus", "minus", "times", "over", "negative", "power"))
    if kind == "negative":
        return (kind, some_expression(dice, height - 1))
    if kind == "power":
        return (kind, some_expression(dice, height - 1), dice.randint(0, 4))
    return (kind, some_expression(dice, height - 1), some_expression(dice, height - 1))


def expression_of(text):
    """Return the expression of a text."""
    return read_program("let aa = 1\nlet bb = " + text).lines[1][2]


def is_text_of(text, expression):
    """Return whether a text can be read, and is that of the expression."""
    try:
        return expression_of(text) == expression
    except BadProgram:
        return False


class Reading(Case):

    def wrong(self, text, line, what):
        """Check with which line and word a text is refused."""
        self.refused(BadProgram, {"line": line, "what": what}, read_program, text)

    def alone(self, text, what):
        """Check with which word the text of one line is refused, wherever it stands."""
        self.wrong(text, 0, what)
        self.wrong("let aa = 1\n\n  " + text + "  \nend", 1, what)


class ReadLinesTest(Reading):

    def test_each_kind_of_line(self):
        text = "let aa = x\nif x = 1 and y != 2 or t = aa\nelse\nend\nfor 3 times\nend\nstop m\nstop nn 1, x, aa"
        self.assertEqual(read_program(text).lines, (
            ("let", "aa", X),
            ("if", (("=", X, ONE), ("!=", Y, TWO), ("=", ("letter", "t"), ("name", "aa"))), ("and", "or")),
            ("else",), ("end",), ("for", 3), ("end",), ("stop", "m", ()), ("stop", "nn", (ONE, X, ("name", "aa")))))

    def test_blanks_anywhere_or_none(self):
        told = read_program("if x = 1\nlet aa = x + 1\nstop m aa, 2 * x\nfor 2 times\nend\nelse\nend")
        for text in ("if x=1\nlet aa=x+1\nstop m aa,2*x\nfor 2times\nend\nelse\nend",
                     "  if   x  =  1   \n   let   aa   =   x   +   1\n stop    m    aa  ,  2  *  x  \n"
                     "for   2   times \n end \n   else\nend    ",
                     "\n\nif x=1\n   \nlet aa= x+1\nstop m aa ,2* x\n\n\nfor 2 times\nend\nelse\nend\n  \n"):
            self.assertTrue(read_program(text) == told)

    def test_blank_lines_are_not_counted(self):
        self.wrong("\n  \nlet aa = 1\n\nstop end", 1, "mark")
        self.assertEqual(read_program("").lines, ())
        self.assertEqual(read_program("\n   \n").lines, ())

    def test_a_tab_is_no_blank(self):
        for text, what in (("\tstop m", "word"), ("\t", "word"), ("stop\tm", "word"), ("let\taa = 1", "word"),
                           ("stop m\t", "mark"), ("stop m\t1", "mark"), ("let aa\t= 1", "sign"),
                           ("let aa =\t1", "sign"),
                           ("for 3\ttimes", "times"), ("if x\t= 1", "sign"), ("stop m 1,\t2", "sign"),
                           ("else\t", "word"),
                           ("stop \tm", "mark"), ("let \taa = 1", "sign"), ("end\r", "word")):
            self.alone(text, what)

    def test_pieces_with_nothing_between(self):
        self.assertEqual(read_program("for 3times\nend").lines[0], ("for", 3))
        self.assertEqual(read_program("if x=1and y=2or 3=4\nend").lines[0],
                         ("if", (("=", X, ONE), ("=", Y, TWO), ("=", ("number", 3), ("number", 4))), ("and", "or")))
        self.alone("let aa = 2x", "sign")
        self.alone("let bb = 1and", "sign")
        self.alone("if x=1 andy=2", "sign")
        self.alone("if xand y=2", "sign")

    def test_word(self):
        for text in ("foo", "Let aa = 1", "let= 1", "if(x = 1)", "stop,", "else x", "end 1", "else else", "end,",
                     "times 3", "for3 times", "broken", "= 1", "1", "(", "elseif x = 1", "end #", "iff x = 1", "ELSE"):
            self.alone(text, "word")

    def test_let(self):
        for text in ("let x = 1", "let t = 1", "let x1 = 1", "let x", "let t1 +", "let x x", "let  z#", "let x,"):
            self.alone(text, "letter")
        for text in ("let", "let = 1", "let aa", "let aa 1", "let aa == 1", "let aa = ", "let aa = 1 1", "let aa1 = 1",
                     "let let = 1", "let abcdefghi = 1", "let 5 = 1", "let A = 1", "let aa = 1,", "let aa = 1 = 1",
                     "let and = 1", "let x10 = 1", "let aa != 1", "let (aa) = 1", "let aa = let", "let aa = times"):
            self.alone(text, "sign")
        self.assertEqual(read_program("let broken = 1").lines, (("let", "broken", ONE),))

    def test_for(self):
        for text in ("for", "for 3", "for times", "for 7 times", "for 03 times", "for 00 times", "for x times",
                     "for -1 times", "for 3 times 3", "for 3 times,", "for 3 time", "for 3 timess", "for 3 times2",
                     "for (3) times", "for 10 times", "for 3.0 times", "for 1+1 times", "for three times",
                     "for 3 # times"):
            self.alone(text, "times")
        self.assertEqual(read_program("for 0 times\nend\nfor 6 times\nend").lines[::2], (("for", 0), ("for", 6)))

    def test_stop(self):
        for text in ("stop", "stop  ", "stop broken", "stop end", "stop M", "stop x1", "stop m,", "stop m(1)",
                     "stop abcdefghi", "stop 1", "stop (m)", "stop broken 1,,,", "stop m,1,2,3,4",
                     "stop end 1, 2, 3, 4"):
            self.alone(text, "mark")
        for text in ("stop m 1, 2, 3, 4", "stop m ,,,", "stop m ,,,,,,", "stop m (,,,", "stop m 1,,,#",
                     "stop m ( , ) , ,"):
            self.alone(text, "values")
        for text in ("stop m ,", "stop m 1,", "stop m 1,,2", "stop m ,,", "stop m 1 2", "stop m (1, 2)", "stop m #",
                     "stop m 1;2", "stop m end", "stop m -", "stop m 1 = 1"):
            self.alone(text, "sign")
        self.assertEqual(read_program("stop let t").lines, (("stop", "let", (("letter", "t"),)),))

    def test_if(self):
        for text in ("if", "if x", "if x =", "if x = 1 and", "if x = 1 or or x = 1", "if = 1", "if x = 1 2",
                     "if x = 1, y = 2", "if (x = 1)", "if x == 1", "if x ! = 1", "if x < 1", "if x = 1 = 1", "if and",
                     "if x = 1 xor y = 2", "if not x = 1", "if x =! 1", "if x = 1 and y", "if x != != 1",
                     "if " + " and ".join(["x = 1"] * 7), "if " + " or ".join(["x = 1"] * 70)):
            self.alone(text, "sign")
        line = read_program("if " + " or ".join(["x = 1"] * 6) + "\nend").lines[0]
        self.assertEqual(line, ("if", (("=", X, ONE),) * 6, ("or",) * 5))

    def test_errors_line_by_line(self):
        self.wrong("let aa = " + "-" * 60 + "1\nfoo", 0, "sign")
        self.wrong("stop m 1\nlet x = 1\nfoo", 1, "letter")

    def test_errors_of_the_whole(self):
        self.wrong("let aa = 1\n" * 61, 60, "many")
        self.wrong("foo\n" * 61, 60, "many")
        self.assertEqual(len(read_program("\n\nlet aa = 1\n" * 60)), 60)
        self.wrong("let aa = bb\nif x = 1", 1, "end")
        self.wrong("let aa = bb\nelse", 1, "end")
        self.wrong("for 6 times\nfor 6 times\nfor 2 times\nend\nend\nend", 2, "times")
        self.wrong("stop m\nstop m 1", 1, "values")
        self.wrong("let aa = bb", 0, "name")
        self.wrong("if x = 1\n\n  let aa = 1\nend\nstop m aa", 3, "name")


class ReadExpressionsTest(Reading):

    def test_numbers(self):
        self.assertEqual(expression_of("0"), ("number", 0))
        self.assertEqual(expression_of("9" * 300), ("number", 10 ** 300 - 1))
        for text in ("00", "01", "007", "1" + "0" * 300, "9" * 5000, "1.5", "1e5"):
            self.alone("let aa = " + text, "sign")
            self.alone("stop m 1 + " + text, "sign")

    def test_letters_and_names(self):
        self.assertEqual(expression_of("t"), ("letter", "t"))
        self.assertEqual(expression_of("t1"), ("letter", "t1"))
        self.assertEqual(expression_of("aa"), ("name", "aa"))
        for text in ("x0", "x10", "aa1", "X", "abcdefghi", "let", "or", "\u00e9", "_"):
            self.alone("let bb = " + text, "sign")

    def test_powers(self):
        self.assertEqual(expression_of("x ** 2"), ("power", X, 2))
        self.assertEqual(expression_of("x**0"), ("power", X, 0))
        self.assertEqual(expression_of("2 ** 4"), ("power", TWO, 4))
        self.assertEqual(expression_of("aa ** 3"), ("power", ("name", "aa"), 3))
        self.assertEqual(expression_of("(x + 1) ** 2"), ("power", ("plus", X, ONE), 2))
        self.assertEqual(expression_of("(x ** 2) ** 3"), ("power", ("power", X, 2), 3))
        for text in ("x ** 2 ** 2", "x ** 5", "x ** -1", "x ** 02", "x ** y", "x ** (2)", "x **", "** 2", "x ** 10",
                     "x * * 2", "x ** 2 2", "x *** 2", "x ** +2", "-** 2", "x ** 2x"):
            self.alone("let aa = " + text, "sign")

    def test_minus_signs(self):
        for text, told in (("-x", ("negative", X)), ("--x", ("negative", ("negative", X))),
                           ("-x ** 2", ("negative", ("power", X, 2))), ("-x * y", ("times", ("negative", X), Y)),
                           ("(-x) ** 2", ("power", ("negative", X), 2)), ("x - -y", ("minus", X, ("negative", Y))),
                           ("x * -y", ("times", X, ("negative", Y))),
                           ("x / --y", ("over", X, ("negative", ("negative", Y)))),
                           ("-x - y", ("minus", ("negative", X), Y)), ("x--y", ("minus", X, ("negative", Y))),
                           ("x + - - y", ("plus", X, ("negative", ("negative", Y)))), ("-(x)", ("negative", X)),
                           ("-x / -y", ("over", ("negative", X), ("negative", Y)))):
            self.assertEqual(expression_of(text), told, text)
        for text in ("-", "x -", "+x", "x + + y", "x * / y", "- - -", "x - * y"):
            self.alone("let aa = " + text, "sign")

    def test_products_and_sums_from_the_left(self):
        for text, told in (("x * y / 2", ("over", ("times", X, Y), TWO)), ("x / y * 2", ("times", ("over", X, Y), TWO)),
                           ("x - y + 1", ("plus", ("minus", X, Y), ONE)), ("x + y - 1", ("minus", ("plus", X, Y), ONE)),
                           ("x + y * 2", ("plus", X, ("times", Y, TWO))), ("x * y + 2", ("plus", ("times", X, Y), TWO)),
                           ("1/2", ("over", ONE, TWO)), ("x * y ** 2", ("times", X, ("power", Y, 2))),
                           ("x - y / 2 - 1", ("minus", ("minus", X, ("over", Y, TWO)), ONE)),
                           ("x * (y + 1)", ("times", X, ("plus", Y, ONE))), ("((x))", X),
                           ("x - (y - 1)", ("minus", X, ("minus", Y, ONE)))):
            self.assertEqual(expression_of(text), told, text)

    def test_brackets(self):
        self.assertEqual(expression_of("(" * 40 + "x" + ")" * 40), X)
        self.assertEqual(expression_of(" + ".join(["(" * 40 + "x" + ")" * 40] * 2)), ("plus", X, X))
        for text in ("(" * 41 + "x" + ")" * 41, "(" * 5000 + "x" + ")" * 5000, "(" * 5000, "(" * 40 + "x" + ")" * 39,
                     "(" * 40 + "x" + ")" * 41, "()", "(x", "x)", ")", "x(y)", "(x)(y)", "(x) y", "2(x)", ")x("):
            self.alone("let aa = " + text, "sign")
            self.alone("stop m 1, " + text, "sign")
        self.alone("if " + "(" * 41 + "x" + ")" * 41 + " = 1", "sign")
        self.alone("let aa = (1) + (2) * ((3)) - " + "(" * 41 + "x" + ")" * 41, "sign")

    def test_thousands(self):
        for text in ("-" * 5000 + "x", " - ".join(["x"] * 5000), "*".join(["x"] * 100000), "x" + "--" * 3000 + "y"):
            self.alone("let aa = " + text, "sign")
            self.alone("if x = " + text, "sign")

    def test_height_and_parts(self):
        self.assertEqual(read_program("let aa = " + "-" * 39 + "x").lines[0][1], "aa")
        self.alone("let aa = " + "-" * 40 + "x", "sign")
        self.assertEqual(len(read_program("let aa = " + " + ".join(["x"] * 40))), 1)
        self.alone("let aa = " + " + ".join(["x"] * 41), "sign")
        # Twenty sums of 19 parts with 19 signs between are 399 parts.
        total = " * ".join(["(" + " + ".join(["x"] * 10) + ")"] * 20)
        self.assertEqual(len(read_program("let aa = -" + total)), 1)
        self.alone("let aa = --" + total, "sign")
        self.alone("if -" + total + " = --" + total, "sign")

    def test_values_have_bounds_of_their_own(self):
        row = " * ".join(["(" + " + ".join(["x"] * 10) + ")"] * 19)
        self.assertEqual(len(read_program(f"stop m {row}, {row}, {row}")), 1)


class ProgramTextTest(Case):

    def test_blocks_within_blocks(self):
        text = "\n".join(["let aa = x", "if x = 1 and y != 2 or t = aa", "  for 3 times", "    if x = 2", "    else",
                          "      let aa = -x + 1/2".replace("1/2", "1 / 2"), "    end", "  end", "  stop m", "else",
                          "  stop nn aa, 2", "end", "for 0 times", "end"])
        self.assertEqual(program_text(read_program(text)), text)
        self.assertEqual(program_text(read_program(text.replace("  ", ""))), text)

    def test_empty(self):
        self.assertEqual(program_text(Program(())), "")
        self.assertEqual(program_text(Program([("stop", "m", ())])), "stop m")

    def test_the_least_brackets(self):
        for text in ("x", "1", "aa", "-x", "--x", "-x ** 2", "(-x) ** 2", "-(x * y)", "-x * y", "x * -y", "x - -y",
                     "x - (y - 1)", "x - y - 1", "x + (y + 1)", "x / (y / 2)", "x / y / 2", "x * (y * 2)",
                     "(x + y) * 2", "2 * (x + y)", "x + y * 2", "(x ** 2) ** 3", "(x + 1) ** 2", "-(x + 1)",
                     "-(x / y) ** 2", "(x * y) ** 2", "x * (-y) ** 2", "x - -(y - 1)", "x / -(y * 2)", "1 / 2 * x",
                     "x * (1 / 2)", "-x - -y", "2 ** 2", "-(-x) ** 2", "(x - y) / (x + y)"):
            self.assertEqual(expression_text(expression_of(text)), text)
        for text, told in (("((x)) + ((y))", "x + y"), ("(x + y) + 1", "x + y + 1"), ("(x * y) / 2", "x * y / 2"),
                           ("(x) ** 2", "x ** 2"), ("(-x) * y", "-x * y"), ("-(-x)", "--x"),
                           ("x + (y * 2)", "x + y * 2"),
                           ("x * (-y)", "x * -y"), ("-(x ** 2)", "-x ** 2"), ("(x ** 2) * y", "x ** 2 * y"),
                           ("x-(-y)", "x - -y"), ("1/2", "1 / 2"), ("(-x) + y", "-x + y")):
            self.assertEqual(expression_text(expression_of(text)), told)

    def test_no_bracket_is_needless(self):
        dice = dice_of(307)
        for _ in range(150):
            expression = some_expression(dice, dice.randint(1, 6))
            text = expression_text(expression)
            self.assertEqual(expression_of(text), expression)
            begun = []
            for place, character in enumerate(text):
                if character == "(":
                    begun.append(place)
                if character == ")":
                    first = begun.pop()
                    less = text[:first] + text[first + 1:place] + text[place + 1:]
                    self.assertFalse(is_text_of(less, expression), text)

    def test_read_again(self):
        dice = dice_of(311)
        for _ in range(60):
            lines = [("let", "aa", ("number", dice.randint(0, 10 ** 300 - 1)))]
            for _ in range(dice.randint(0, 6)):
                lines.append(("let", "aa", some_expression(dice, 4)))
                tests = tuple((dice.choice(("=", "!=")), some_expression(dice, 3), some_expression(dice, 3))
                              for _ in range(dice.randint(1, 6)))
                lines.append(("if", tests, tuple(dice.choice(("and", "or")) for _ in tests[1:])))
                lines.append(("stop", "m", (some_expression(dice, 3), some_expression(dice, 4))))
                lines.extend(dice.choice(((("end",),), (("else",), ("for", 2), ("end",), ("end",)))))
            program = Program(lines)
            self.assertTrue(read_program(program_text(program)) == program)
            self.assertEqual(program_text(read_program(program_text(program))), program_text(program))

    def test_high_expressions(self):
        found = X
        for _ in range(39):
            found = ("minus", ONE, found)
        program = Program([("let", "aa", found)])
        self.assertEqual(program_text(program).count("("), 38)
        self.assertTrue(read_program(program_text(program)) == program)
        found = X
        for _ in range(39):
            found = ("power", found, 2)
        program = Program([("let", "aa", found)])
        self.assertTrue(read_program(program_text(program)) == program)


if __name__ == "__main__":
    unittest.main()
