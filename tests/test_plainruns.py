"""[4.12] to [4.14]: plain runs at one point."""

import unittest

from neverfactored.errors import BadPoint, LackingLetter
from neverfactored.plainruns import Outcome, lines_walked, run_at
from tests.support import ODD_THINGS, Case, program


EXAMPLE = program("if x = 1", "stop aa 5", "else", "stop bb 1 / (x - 1)", "end")


class OutcomeTest(Case):

    def test_keeps_what_it_is_given(self):
        found = Outcome("m", [(1, 2)], [(0, 0, True)], [0, 1])
        self.assertEqual(vars(found), {"mark": "m", "outputs": ((1, 2),), "answers": ((0, 0, True),), "walked": (0, 1)})
        self.assertEqual(vars(Outcome(None, (), (), ())), {"mark": None, "outputs": (), "answers": (), "walked": ()})

    def test_equal(self):
        one = Outcome("m", ((1, 2),), ((0, 0, True),), (0, 1))
        self.assertTrue(one == Outcome("m", [(1, 2)], [(0, 0, True)], [0, 1]))
        for other in (Outcome("n", ((1, 2),), ((0, 0, True),), (0, 1)), Outcome("m", (), ((0, 0, True),), (0, 1)),
                      Outcome("m", ((1, 2),), ((0, 0, False),), (0, 1)),
                      Outcome("m", ((1, 2),), ((0, 0, True),), (0,))):
            self.assertFalse(one == other)


class RunCase(Case):

    def runs(self, told, number, mark, outputs=(), answers=None, walked=None):
        """Check the outcome of a program at x, a whole number."""
        found = run_at(told, ("x",), ((number, 1),))
        self.assertIsInstance(found, Outcome)
        self.assertEqual((found.mark, found.outputs), (mark, outputs))
        if answers is not None:
            self.assertEqual(found.answers, answers)
            self.assertTrue(all(row[2] in (True, False) and isinstance(row[2], bool) for row in found.answers))
        if walked is not None:
            self.same(found.walked, walked)
        self.assertEqual(list(lines_walked(told, ["x"], [(number, 1)])), list(found.walked))


class ErrorsTest(Case):

    def wrong(self, letters, numbers, index, what):
        """Check with which index and word a point is refused."""
        self.refused(BadPoint, {"index": index, "what": what}, run_at, EXAMPLE, letters, numbers)
        self.refused(BadPoint, {"index": index, "what": what}, lambda: list(lines_walked(EXAMPLE, letters, numbers)))

    def test_many(self):
        for letters, numbers in ((("x",), ()), ((), ((1, 1),)), (("x", "y"), ((1, 1),)), ("x", ((1, 1),)), (None, None),
                                 (("x",), "1"), ({"x": 1}, ((1, 1),)), (("x",), {(1, 1)}), (("x",), None),
                                 ((None,), ()), (("x", "x"), ((1, 1),))):
            self.wrong(letters, numbers, 0, "many")

    def test_letter(self):
        for thing in ODD_THINGS:
            if thing != "x":
                self.wrong((thing,), ((1, 1),), 0, "letter")
        for letters, index in ((("x", "x"), 1), (("x", "T"), 1), (("xx", "x"), 0), (("x", "y", "t", "x"), 3),
                               (["t", "t"], 1), (("x", "x0"), 1)):
            self.wrong(letters, ((1, 1),) * len(letters), index, "letter")
            # What is wrong with the numbers comes behind.
            self.wrong(letters, (None,) * len(letters), index, "letter")

    def test_ratio(self):
        for thing in ODD_THINGS + ((2, 2), (1, 0), (1, -1), [1, 1], (1,), (True, 1), "1/2"):
            self.wrong(("x",), (thing,), 0, "ratio")
            self.wrong(("x", "y"), [(1, 2), thing], 1, "ratio")

    def test_lacking_letter(self):
        told = program("let aa = y + t", "stop m x + z")
        for letters, lacking in (((), "t"), (("x",), "t"), (("t",), "x"), (("t", "x"), "y"), (("z", "y", "t"), "x"),
                                 (["x", "t", "y"], "z")):
            self.refused(LackingLetter, {"letter": lacking}, run_at, told, letters, ((1, 1),) * len(letters))
        self.refused(BadPoint, {"index": 0, "what": "ratio"}, run_at, told, ("x",), ((2, 4),))
        self.assertEqual(run_at(told, ("t", "x", "y", "z", "a"), ((1, 1),) * 5).mark, "m")

    def test_letters_on_lines_that_no_way_comes_to(self):
        told = program("stop m", "stop n y")
        self.refused(LackingLetter, {"letter": "y"}, run_at, told, ("x",), ((1, 1),))

    def test_nothing_that_is_passed_is_changed(self):
        letters, numbers = ["x"], [(3, 1)]
        run_at(EXAMPLE, letters, numbers)
        self.assertEqual((letters, numbers), (["x"], [(3, 1)]))


class ReckoningTest(RunCase):

    def test_each_kind_of_expression(self):
        for text, told in (("7", (7, 1)), ("x", (3, 1)), ("-x", (-3, 1)), ("x + 1/2", (7, 2)), ("x - 5", (-2, 1)),
                           ("x * x", (9, 1)), ("x / 6", (1, 2)), ("x ** 3", (27, 1)), ("x ** 0", (1, 1)),
                           ("(x - 3) ** 0", (1, 1)), ("-x ** 2", (-9, 1)), ("1 / 2 / 3", (1, 6)), ("0 / x", (0, 1))):
            self.runs(program("stop m " + text), 3, "m", (told,), (), (0,))

    def test_names(self):
        told = program("let aa = x", "let bb = aa + 1", "let aa = aa * bb", "stop m aa, bb, t")
        self.assertEqual(run_at(told, ("t", "x"), ((1, 2), (3, 1))).outputs, ((12, 1), (4, 1), (1, 2)))

    def test_division_by_0_at_each_place(self):
        broken = "1 / (x - 3)"
        for text in (broken, f"-({broken})", f"1 + {broken}", f"{broken} - 1", f"0 * ({broken})", f"({broken}) ** 0",
                     f"({broken}) ** 2", f"({broken}) / 1", f"1 / ({broken})", "0 / (x - 3)", "1 / 0", "x / (0 ** 2)"):
            self.runs(program("let aa = " + text, "stop m"), 3, "broken", (), (), (0,))
            self.runs(program("stop m 1, " + text), 3, "broken", (), (), (0,))
            self.runs(program("stop m " + text + ", 1"), 3, "broken", (), (), (0,))
            self.runs(program("if x = 3 and " + text + " = 1", "end", "stop m"), 3, "broken", (), ((0, 0, True),), (0,))
            self.runs(program("if 1 != " + text, "end", "stop m"), 3, "broken", (), (), (0,))
            self.runs(program("let aa = 1", "stop m aa"), 3, "m", ((1, 1),), (), (0, 1))

    def test_the_power_0_is_reckoned(self):
        self.runs(program("stop m (1 / x) ** 0"), 0, "broken", (), (), (0,))
        self.runs(program("stop m (1 / x) ** 0"), 2, "m", ((1, 1),), (), (0,))


class TestsTest(RunCase):

    def asks(self, tests, number, answers, yes):
        """Check the answers of an if line at x and the side that is taken."""
        rows = tuple((0, test, answer) for test, answer in answers)
        self.runs(program("if " + tests, "stop yes", "else", "stop no", "end"), number, "yes" if yes else "no", (),
                  rows,
                  (0, 1 if yes else 3))

    def test_one_test(self):
        self.asks("x = 1", 1, ((0, True),), True)
        self.asks("x = 1", 2, ((0, False),), False)
        self.asks("x != 1", 1, ((0, False),), False)
        self.asks("x != 1", 2, ((0, True),), True)

    def test_which_are_passed_over(self):
        self.asks("x = 1 and x = 2", 1, ((0, True), (1, False)), False)
        self.asks("x = 1 and x = 2", 2, ((0, False),), False)
        self.asks("x = 1 or x = 2", 1, ((0, True),), True)
        self.asks("x = 1 or x = 2", 2, ((0, False), (1, True)), True)
        self.asks("x = 1 or x = 2", 3, ((0, False), (1, False)), False)

    def test_the_answer_goes_along(self):
        self.asks("x = 1 or x = 2 and x != 2", 1, ((0, True), (2, True)), True)
        self.asks("x = 1 or x = 2 and x != 2", 2, ((0, False), (1, True), (2, False)), False)
        self.asks("x = 1 and x = 2 or x != 3", 2, ((0, False), (2, True)), True)
        self.asks("x = 1 and x = 2 or x != 3", 3, ((0, False), (2, False)), False)
        self.asks("x = 1 and x = 2 and x = 3 or x = 4 or x = 5 and x != 4", 4, ((0, False), (3, True), (5, False)),
                  False)
        self.asks("x = 5 or x = 6 or x = 7 and x = 7 and x = 8 or x = 5", 5, ((0, True), (3, False), (5, True)), True)

    def test_what_is_passed_over_is_not_reckoned(self):
        self.asks("x = 1 or 1 / (x - 1) = 2", 1, ((0, True),), True)
        self.asks("x != 1 and 1 / (x - 1) = 2", 1, ((0, False),), False)

    def test_a_test_that_breaks_has_no_row(self):
        self.runs(program("if x = 1 and x != 2 and 1 / (x - 1) = 2 or x = 1", "end"), 1, "broken", (),
                  ((0, 0, True), (0, 1, True)), (0,))
        self.runs(program("if x = 1 / (x - 1)", "end"), 1, "broken", (), (), (0,))


class WalkingTest(RunCase):

    def test_the_example(self):
        self.runs(EXAMPLE, 3, "bb", ((1, 2),), ((0, 0, False),), (0, 3))
        self.runs(EXAMPLE, 1, "aa", ((5, 1),), ((0, 0, True),), (0, 1))

    def test_behind_the_last_line(self):
        self.runs(program(), 1, "end", (), (), ())
        self.runs(program("let aa = x"), 1, "end", (), (), (0,))
        self.runs(program("if x = 1", "end"), 1, "end", (), ((0, 0, True),), (0,))
        self.runs(program("for 2 times", "end"), 1, "end", (), (), (0,))

    def test_both_sides_of_an_if(self):
        told = program("if x = 1", "let aa = 1", "else", "let aa = 2", "let aa = 3", "end", "stop m aa")
        self.runs(told, 1, "m", ((1, 1),), ((0, 0, True),), (0, 1, 6))
        self.runs(told, 2, "m", ((3, 1),), ((0, 0, False),), (0, 3, 4, 6))
        told = program("if x = 1", "else", "let aa = 2", "end", "stop m")
        self.runs(told, 1, "m", (), ((0, 0, True),), (0, 4))
        told = program("if x = 1", "let aa = 2", "else", "end", "stop m")
        self.runs(told, 2, "m", (), ((0, 0, False),), (0, 4))
        told = program("if x = 1", "let aa = 2", "end", "stop m")
        self.runs(told, 2, "m", (), ((0, 0, False),), (0, 3))

    def test_times(self):
        told = program("let aa = x", "for 3 times", "let aa = aa * 2", "end", "stop m aa")
        self.runs(told, 1, "m", ((8, 1),), (), (0, 1, 2, 2, 2, 4))
        self.runs(program("for 0 times", "let aa = 1 / 0", "end", "stop m"), 1, "m", (), (), (0, 3))
        self.runs(program("for 1 times", "for 0 times", "stop n", "end", "end", "stop m"), 1, "m", (), (), (0, 1, 5))

    def test_times_within_times(self):
        told = program("let aa = 0", "for 2 times", "for 3 times", "let aa = aa + 1", "end", "let aa = aa * 10", "end",
                       "stop m aa")
        self.runs(told, 1, "m", ((330, 1),), (), (0, 1, 2, 3, 3, 3, 5, 2, 3, 3, 3, 5, 7))

    def test_if_within_times(self):
        told = program("let aa = 0", "for 3 times", "if aa = 1", "let aa = 5", "else", "let aa = aa + 1", "end", "end",
                       "stop m aa")
        self.runs(told, 1, "m", ((6, 1),), ((2, 0, False), (2, 0, True), (2, 0, False)), (0, 1, 2, 5, 2, 3, 2, 5, 8))

    def test_a_stop_within_times(self):
        told = program("let aa = x", "for 6 times", "for 6 times", "let aa = aa - 1", "if aa = 0", "stop m x", "end",
                       "end", "end")
        self.runs(told, 2, "m", ((2, 1),), ((4, 0, False), (4, 0, True)), (0, 1, 2, 3, 4, 3, 4, 5))
        self.assertEqual(run_at(told, ("x",), ((37, 1),)).mark, "end")
        self.assertEqual(run_at(told, ("x",), ((36, 1),)).mark, "m")

    def test_where_a_run_breaks(self):
        told = program("for 3 times", "let aa = 1", "if aa = 1", "stop m 1 / (x - 1), 1", "end", "end")
        self.runs(told, 1, "broken", (), ((2, 0, True),), (0, 1, 2, 3))
        told = program("let aa = x", "for 6 times", "let bb = 1 / aa", "let aa = aa - 1", "end")
        self.runs(told, 1, "broken", (), (), (0, 1, 2, 3, 2))

    def test_lines_one_by_one(self):
        found = [line for line in lines_walked(EXAMPLE, ("x",), ((3, 1),))]
        self.same(tuple(found), (0, 3))
        told = program("for 6 times", "for 6 times", "let aa = 1", "end", "end")
        self.assertEqual(len(list(lines_walked(told, (), ()))), 1 + 6 + 36)
        self.assertEqual(next(iter(lines_walked(told, (), ()))), 0)


if __name__ == "__main__":
    unittest.main()
