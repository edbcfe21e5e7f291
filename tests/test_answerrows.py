"""[5.6], [5.9]: answers and marks, and how many points give them."""

import unittest

from neverfactored.answerrows import answer_rows
from neverfactored.errors import HasFree, LackingLetter
from neverfactored.plainruns import run_at
from tests.support import Case, dice_of, points_of, program, some_program, split_system, system

NO, YES = ((0, 0, False),), ((0, 0, True),)


class AnswerRowsTest(Case):

    def rows(self, found, told):
        """Check rows; whole numbers and answers are of their own kinds."""
        self.assertEqual(found, told)
        self.assertIs(found.__class__, tuple)
        for answers, _, points in found:
            self.same(points, points)
            self.assertTrue(all(isinstance(row[2], bool) for row in answers))

    def test_of_5_10(self):
        told = program("if x = 1", "stop a 5", "else", "stop b 1 / (x - 1)", "end")
        self.rows(answer_rows(told, system("x: x**2 - 1")), ((NO, "b", 1), (YES, "a", 1)))

    def test_broken_beside_another_mark(self):
        told = program("if x = 5", "end", "stop m 1 / (x * x - x)")
        self.rows(answer_rows(told, system("x: x**4 - x**2")), ((NO, "broken", 2), (NO, "m", 1)))
        told = program("if x = 0 or 1 / (x - 1) = 1", "end", "stop m")
        self.rows(answer_rows(told, system("x: x**3 - 3*x**2 + 2*x")),
                  ((NO, "broken", 1), (((0, 0, False), (0, 1, True)), "m", 1), (YES, "m", 1)))

    def test_the_order(self):
        told = program("if x = 1 or y = 1", "if y = 2", "end", "else", "if x = 2 and y = 3", "end", "end", "stop m")
        found = answer_rows(told, system("x: x**2 - 3*x + 2", "y: y**2 - 3*y + 2"))
        self.rows(found, ((((0, 0, False), (0, 1, False), (4, 0, True), (4, 1, False)), "m", 1),
                          (((0, 0, False), (0, 1, True), (1, 0, False)), "m", 1),
                          (((0, 0, True), (1, 0, False)), "m", 1), (((0, 0, True), (1, 0, True)), "m", 1)))

    def test_unlike_points_are_counted(self):
        self.rows(answer_rows(program("stop m"), system("x: x**3 - x**2")), (((), "m", 2),))
        self.rows(answer_rows(program(), system("x: x**2 - 2", "y: y**2 - 2*x*y + 2")), (((), "end", 2),))
        self.rows(answer_rows(program("if x = y", "stop m", "end"), system("x: x**2 - 2", "y: y**4 - 4")),
                  ((NO, "end", 6), (YES, "m", 2)))

    def test_a_special_system(self):
        told = program("if t = 1", "stop m", "end")
        self.rows(answer_rows(told, system("t: t**3 - t", "x: x**2 - t", special=True)),
                  ((NO, "end", 3), (YES, "m", 2)))

    def test_by_dice(self):
        dice = dice_of(383)
        for turn in range(60):
            one, roots = split_system(dice, ((2,), (3,), (2, 2), (3, 2), (2, 1, 2))[turn % 5])
            told = some_program(dice, one.letters)
            counts = {}
            for point in set(points_of(roots)):
                found = run_at(told, one.letters, point)
                counts[(found.answers, found.mark)] = counts.get((found.answers, found.mark), 0) + 1
            self.rows(answer_rows(told, one), tuple((*row, counts[row]) for row in sorted(counts)))

    def test_letters_and_the_free_letter(self):
        free = system("x: x**2 - t", free=True)
        self.refused(LackingLetter, {"letter": "t"}, answer_rows, program("stop m t"), free)
        self.refused(LackingLetter, {"letter": "y"}, answer_rows, program("stop m y"), free)
        self.refused(LackingLetter, {"letter": "t"}, answer_rows, program("stop m t"), system("x: x"))
        self.refused(HasFree, {}, answer_rows, program("stop m x"), free)
        self.refused(HasFree, {}, answer_rows, program(), system("x: x**2 - 2", free=True))


if __name__ == "__main__":
    unittest.main()
