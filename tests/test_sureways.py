"""[7.4], [7.5], [7.8], [7.9]: what a program does alike at all points of a system, and what it does at none."""

import unittest

from neverfactored.errors import HasFree, LackingLetter
from neverfactored.sureways import idle_lines, sure_tests, sure_ways, tests_counted
from tests.support import Case, dice_of, outcomes_at, points_of, program, some_program, split_system, system

PAIR = system("x: x**2 - x")
ROOTS = system("x: x**2 - 2", "y: y**2 - 2")
SHAPES = ((2,), (4,), (2, 2), (3, 2), (2, 3), (2, 1, 2))
LONG = program("if x = 0 or x != 0", "let aa = 2", "else", "let aa = 3", "end", "if x = 1", "stop mm aa", "end",
               "stop nn aa")
CALLS = (sure_ways, sure_tests, idle_lines, tests_counted)


def walks_of(told, row):
    """Return couples (if line, its answers, whether it breaks) of one outcome, one for each time it is walked."""
    answers = list(row.answers)
    found = []
    lines = [line for line in row.walked if told.lines[line][0] == "if"]
    for place, line in enumerate(lines):
        own = []
        # Each test is asked once at most, those farther right later.
        while answers and answers[0][0] == line and (not own or answers[0][1] > own[-1][1]):
            own.append(answers.pop(0))
        breaks = row.mark == "broken" and place == len(lines) - 1 and row.walked[-1] == line
        found.append((line, own, breaks))
    return found


def all_alike(rows):
    """Return the ascending rows key + (answer,) of couples (key, answer) of the keys with one answer alone."""
    found = {}
    for key, yes in rows:
        found.setdefault(key, set()).add(yes)
    return tuple(key + tuple(answers) for key, answers in sorted(found.items()) if len(answers) == 1)


class AtThePointsTest(Case):

    def test_sure_ways_and_tests(self):
        dice = dice_of(523)
        counts = [0, 0, 0]
        for turn in range(160):
            one, roots = split_system(dice, SHAPES[turn % len(SHAPES)])
            told = some_program(dice, one.letters, 3)
            walks = [walk for row in outcomes_at(told, one, roots).values() for walk in walks_of(told, row)]
            broken = {line for line, _, breaks in walks if breaks}
            ways = all_alike(((line,), own[-1][2]) for line, own, _ in walks if line not in broken)
            tests = all_alike(((line, test), yes) for line, own, _ in walks if line not in broken
                              for _, test, yes in own)
            self.assertEqual(sure_ways(told, one), ways)
            self.assertEqual(sure_tests(told, one), tests)
            counts = [counts[0] + len(ways), counts[1] + len(tests), counts[2] + len(broken)]
        self.assertGreater(min(counts), 10)

    def test_idle_lines_and_numbers_of_tests(self):
        dice = dice_of(541)
        for turn in range(100):
            one, roots = split_system(dice, SHAPES[turn % len(SHAPES)])
            told = some_program(dice, one.letters, 3)
            rows = outcomes_at(told, one, roots).values()
            walked = {line for row in rows for line in row.walked}
            self.assertEqual(idle_lines(told, one), tuple(
                number for number, line in enumerate(told) if line[0] not in ("else", "end") and number not in walked))
            asked = [len(row.answers) for row in rows]
            found = tests_counted(told, one)
            self.same(found, tuple((number, asked.count(number)) for number in sorted(set(asked))))
            self.assertEqual(sum(points for _, points in found), len(set(points_of(roots))))


class SureTest(Case):

    def judged(self, ways, tests, *lines, one=PAIR):
        """Check the sure ways and the sure tests of a program."""
        told = program(*lines)
        self.assertEqual((sure_ways(told, one), sure_tests(told, one)), (ways, tests))
        self.assertTrue(all(row[-1] is True or row[-1] is False for row in ways + tests))

    def test_of_7_9(self):
        self.assertEqual(sure_ways(LONG, PAIR), ((0, True),))
        self.assertEqual(sure_tests(LONG, PAIR), ((0, 1, True),))
        self.assertEqual(idle_lines(LONG, PAIR), (3,))
        self.assertEqual(tests_counted(LONG, PAIR), ((2, 1), (3, 1)))

    def test_a_sure_line_whose_tests_are_not_sure(self):
        self.judged(((0, True),), ((0, 1, True),), "if x = 0 or x = 1", "end")
        self.judged(((0, False),), ((0, 1, False),), "if x = 0 and x = 1", "end")
        self.judged(((0, True),), ((0, 1, True), (0, 2, True)), "if x = 0 or x = 1 and x * x = x", "end")

    def test_yes_and_no(self):
        self.judged(((0, True), (2, False)), ((0, 0, True), (2, 0, False)),
                    "if x * x = x", "end", "if x = 3", "stop m", "else", "end")
        self.judged((), (), "if x = 0", "end")
        self.judged((), (), "stop m x")

    def test_lines_in_loops(self):
        self.judged(((2, True),), ((2, 0, True),), "let aa = x", "for 3 times", "if aa * aa = aa", "let aa = 1 - aa",
                    "end", "end")
        self.judged((), (), "let aa = 0", "for 3 times", "if aa = 0", "let aa = 1", "end", "end")
        self.judged((), (), "let aa = 0", "for 3 times", "if aa = 2", "end", "let aa = aa + 1", "end")
        # At each point it goes the same way each time, but not at all points.
        self.judged((), (), "for 2 times", "if x = 1", "end", "end")
        self.judged(((2, False),), ((2, 0, False),), "let aa = 7", "for 2 times", "if aa = x", "end", "end")

    def test_lines_that_break_at_some_point(self):
        self.judged((), (), "if 1 / x = 1", "end")
        self.judged((), (), "if 2 = 2 and 1 / x = 1", "end")
        self.judged(((0, True),), ((0, 0, True),), "if 1 / (x + 1) = 1 / (1 + x)", "end", "stop m 1 / x")
        self.judged(((1, True),), ((1, 0, True),), "let aa = 1 / x", "if aa = 1", "end")
        # It breaks the second time alone.
        self.judged((), (), "let aa = 2", "for 2 times", "if aa / aa = 1", "end", "let aa = 0", "end")
        # It breaks at all points.
        self.judged((), (), "if 1 / 0 = 1", "end")

    def test_tests_passed_over(self):
        self.judged((), ((0, 1, True),), "if x = 0 and 2 = 2", "end")
        self.judged(((0, True),), ((0, 0, True),), "if 2 = 2 or x = 0", "end")
        # The second test is asked where x is 1 alone.
        self.judged(((0, True),), ((0, 1, True),), "if x = 0 or 1 / x = 1", "end")
        self.judged(((0, False),), ((0, 0, False),), "if x = 5 and 1 / 0 = 1", "end")

    def test_lines_that_no_point_walks(self):
        self.judged(((0, False),), ((0, 0, False),), "if x = 5", "if x = x", "end", "end")
        self.judged((), (), "for 0 times", "if x = x", "end", "end", "stop m", "if x = x", "end")
        self.judged(((1, True),), ((1, 0, True),), "for 1 times", "if x = x", "stop m", "end", "if x = x", "end", "end")

    def test_points_that_are_no_ratios(self):
        self.judged(((0, True), (2, False)), ((0, 1, True), (2, 0, False)), "if x = y or x = -y", "end", "if x = 1",
                    "end", one=ROOTS)
        self.judged((), (), "if x = y", "end", one=ROOTS)

    def test_special_systems(self):
        special = system("x: x**2 - t", free=True).special(((-2, 1), (0, 1), (1, 1)))
        self.judged(((0, True),), ((0, 0, True), (0, 1, True)), "if t * t = 2 and x ** 4 = 2", "end", one=special)


class IdleTest(Case):

    def judged(self, idle, *lines, one=PAIR):
        """Check the idle lines of a program."""
        self.same(idle_lines(program(*lines), one), idle)

    def test_lines_of_each_kind(self):
        self.judged((1, 2, 4, 6), "if x = 5", "let aa = 1", "for 2 times", "end", "if x = 1", "else", "stop m", "end",
                    "end", "stop n")
        self.judged((3,), "if x * x = x", "let aa = 1", "else", "stop m", "end")

    def test_lines_of_0_times(self):
        self.judged((1,), "for 0 times", "let aa = 1", "end", "stop m")
        self.judged((1, 2), "for 0 times", "for 3 times", "stop m", "end", "end")

    def test_behind_a_stop_line(self):
        self.judged((1, 2, 4), "stop m", "let aa = 1", "for 1 times", "end", "stop n")
        self.judged((), "if x = 0", "stop m", "else", "stop n", "end")

    def test_behind_a_line_in_which_all_points_break(self):
        self.judged((1,), "let aa = 1 / (x * x - x)", "stop m")
        self.judged((), "let aa = 1 / x", "stop m")

    def test_none(self):
        self.judged(())
        self.judged((), "if x = 0", "else", "end", "for 2 times", "end")


class CountedTest(Case):

    def test_tests_asked_in_loops(self):
        self.assertEqual(tests_counted(program("for 3 times", "if x = x", "end", "end"), PAIR), ((3, 2),))
        self.assertEqual(tests_counted(program("for 3 times", "if x = 0 or x = 1", "end", "end"), PAIR),
                         ((3, 1), (6, 1)))
        self.assertEqual(tests_counted(program("for 2 times", "for 2 times", "if x = 1", "stop m", "end", "end", "end"),
                                       PAIR), ((1, 1), (4, 1)))

    def test_points_that_are_no_ratios(self):
        told = program("if x = y", "if x = 0", "end", "else", "if y = 0 or x = -y", "end", "end")
        self.assertEqual(tests_counted(told, ROOTS), ((2, 2), (3, 2)))

    def test_a_test_within_which_the_run_breaks_is_not_answered(self):
        self.assertEqual(tests_counted(program("if 2 = 2 and 1 / x = 1", "end"), PAIR), ((1, 1), (2, 1)))
        self.assertEqual(tests_counted(program("if 1 / 0 = 1", "end"), PAIR), ((0, 2),))

    def test_double_roots_count_once(self):
        self.assertEqual(tests_counted(program("if x = 0", "end"), system("x: x**4 - 4*x**2 + 4")), ((1, 2),))
        self.assertEqual(tests_counted(program(), PAIR), ((0, 2),))


class ErrorsTest(Case):

    def test_the_free_letter_then_letters(self):
        free = system("x: x**2 - 2", free=True)
        for call in CALLS:
            self.refused(HasFree, {}, call, program("stop m y"), free)
            self.refused(HasFree, {}, call, program(), free)
            self.refused(LackingLetter, {"letter": "t"}, call, program("stop m y + t"), PAIR)
            self.refused(LackingLetter, {"letter": "y"}, call, program("for 0 times", "stop m y", "end"), PAIR)


if __name__ == "__main__":
    unittest.main()
