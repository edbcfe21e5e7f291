"""[7.1] to [7.3], [7.8], [7.9]: whether two programs do the same, where they do not, and judging of that."""

import unittest

from neverfactored.errors import HasFree, LackingLetter
from neverfactored.forms import Form, form_of, system_form
from neverfactored.joining import Piece
from neverfactored.plainruns import run_at
from neverfactored.programforms import program_form
from neverfactored.sameness import Apart, apart_fault, apart_points, programs_alike
from neverfactored.towers import Tower
from tests.support import (
    ODD_THINGS, Case, changed_program, dice_of, outcomes_at, points_of, program, some_program, split_system, system,
    tower)

TWO = tower("x: x**2 - 2")
PAIR = system("x: x**2 - x")
ROOTS = system("x: x**2 - 2", "y: y**2 - 2")
SHAPES = ((2,), (4,), (2, 2), (3, 2), (2, 3), (2, 1, 2), (2, 2, 2))
LONG = program("if x = 0 or x != 0", "let aa = 2", "else", "let aa = 3", "end", "if x = 1", "stop mm aa", "end",
               "stop nn aa")
SHORT = program("stop nn 2")


def unlike_points(rows, others):
    """Return the points at which two dicts of outcomes have not the same mark and values."""
    return {point for point in rows
            if (rows[point].mark, rows[point].outputs) != (others[point].mark, others[point].outputs)}


class ApartTest(Case):

    def test_keeps_what_it_is_given(self):
        self.assertEqual(vars(Apart(TWO, "m", "n", None)), {"tower": TWO, "mark": "m", "other_mark": "n", "place": None})
        self.assertEqual(vars(Apart(1, 2, 3, "four")), {"tower": 1, "mark": 2, "other_mark": 3, "place": "four"})

    def test_equal(self):
        one = Apart(TWO, "m", "n", 0)
        self.assertTrue(one == Apart(tower("x: x**2 - 2"), "m", "n", 0))
        for other in (Apart(tower("x: x"), "m", "n", 0), Apart(TWO, "n", "n", 0), Apart(TWO, "m", "m", 0),
                      Apart(TWO, "m", "n", 1), Apart(TWO, "m", "n", None)):
            self.assertFalse(one == other)


class AlikeTest(Case):

    def right_apart(self, one, told, other, apart, unlike):
        """Check what an Apart says at its points, all of them ratios."""
        self.assertIsInstance(apart, Apart)
        for point in self.whole_points(apart.tower, unlike):
            left, right = run_at(told, one.letters, point), run_at(other, one.letters, point)
            self.assertEqual((left.mark, right.mark), (apart.mark, apart.other_mark))
            if apart.place is None:
                self.assertTrue(left.mark != right.mark or len(left.outputs) != len(right.outputs))
            else:
                self.assertEqual(left.mark, right.mark)
                self.assertNotEqual(left.outputs[apart.place], right.outputs[apart.place])

    def test_at_the_points(self):
        dice = dice_of(509)
        places = {}
        for turn in range(140):
            one, roots = split_system(dice, SHAPES[turn % len(SHAPES)])
            told = some_program(dice, one.letters)
            other = some_program(dice, one.letters) if turn % 3 == 0 else changed_program(dice, told)
            unlike = unlike_points(outcomes_at(told, one, roots), outcomes_at(other, one, roots))
            apart = programs_alike(one, told, other)
            self.assertIs(apart is None, not unlike)
            self.assertIs(program_form(told, one) == program_form(other, one), not unlike)
            form = apart_points(one, told, other)
            self.is_form(form, one.letters, {point: () for point in unlike})
            self.assertTrue(apart_points(one, other, told) == form)
            if apart is not None:
                self.right_apart(one, told, other, apart, unlike)
                self.assertIsNone(apart_fault(one, told, other, apart))
            place = "alike" if apart is None else apart.place
            places[place] = places.get(place, 0) + 1
        self.assertGreater(places["alike"], 20)
        self.assertGreater(places[None], 20)
        self.assertGreater(places[0], 15)

    def test_points_that_are_no_ratios(self):
        same = program("if x * x != y * y", "stop n", "end", "stop m x ** 3 - 2 * x, 1 / (x + 3)")
        other = program("stop m 0, (3 - x) / 7")
        self.assertIsNone(programs_alike(ROOTS, same, other))
        self.assertIsNone(programs_alike(ROOTS, other, same))
        apart = programs_alike(ROOTS, program("stop m 1, x"), program("stop m 1, y"))
        self.assertEqual(vars(apart), {"tower": tower("x: x**2 - 2", "y: y + x"), "mark": "m", "other_mark": "m",
                                       "place": 1})

    def test_unlike_marks_and_numbers_of_values(self):
        self.assertEqual(vars(programs_alike(PAIR, LONG, SHORT)),
                         {"tower": tower("x: x - 1"), "mark": "mm", "other_mark": "nn", "place": None})
        self.assertEqual(vars(programs_alike(PAIR, program("stop m"), program("stop m x"))),
                         {"tower": tower("x: x**2 - x"), "mark": "m", "other_mark": "m", "place": None})
        self.assertEqual(vars(programs_alike(PAIR, program(), program("let aa = 1 / 0"))),
                         {"tower": tower("x: x**2 - x"), "mark": "end", "other_mark": "broken", "place": None})

    def test_one_unlike_value_among_several(self):
        for place in range(3):
            values = ["x", "x", "x"]
            values[place] = "x * x + x"
            apart = programs_alike(PAIR, program("stop m x, x, x"), program("stop m " + ", ".join(values)))
            self.assertEqual(vars(apart), {"tower": tower("x: x - 1"), "mark": "m", "other_mark": "m", "place": place})

    def test_answers_and_walked_lines_do_not_count(self):
        self.assertIsNone(programs_alike(PAIR, program("if x = 0", "let aa = 1", "end", "stop m"), program("stop m")))
        self.assertIsNone(programs_alike(PAIR, program("if x = 0", "end"), program("if x = 1", "else", "end")))
        self.assertIsNone(programs_alike(PAIR, program("let aa = 1 / 0"), program("for 2 times", "end", "stop m 2 / 0")))

    def test_double_roots_and_special_systems(self):
        self.assertIsNone(programs_alike(system("x: x**2"), program("stop m x"), program("stop m 0")))
        special = system("x: x**2 - t", free=True).special(((-2, 1), (0, 1), (1, 1)))
        self.assertIsNone(programs_alike(special, program("stop m x ** 4"), program("stop m 2")))
        self.assertIsNotNone(programs_alike(special, program("stop m x ** 4"), program("stop m t")))


class ApartPointsTest(Case):

    def test_followed_by_hand(self):
        self.assertTrue(apart_points(PAIR, LONG, SHORT) == Form(("x",), [Piece(tower("x: x - 1"), ())]))
        self.assertTrue(apart_points(PAIR, LONG, LONG) == Form(("x",), ()))
        form = apart_points(ROOTS, program("stop m x, y"), program("stop m y, x"))
        self.assertTrue(form == Form(("x", "y"), [Piece(tower("x: x**2 - 2", "y: y + x"), ())]))
        self.assertTrue(apart_points(ROOTS, program("stop m"), program("stop n")) == system_form(ROOTS))

    def test_each_unlike_value_counts(self):
        one = system("x: x**3 - 6*x**2 + 11*x - 6")
        form = apart_points(one, program("stop m x, 2"), program("stop m 1, x"))
        self.assertTrue(form == system_form(one))
        form = apart_points(one, program("stop m x * (x - 3), 0"), program("stop m 2 * (x - 3), x - 2"))
        self.assertTrue(form == form_of(("x",), [tower("x: x**2 - 4*x + 3")]))

    def test_programs_that_are_alike_stand_for_one_another(self):
        one, other = program("if x = y", "stop m x", "end", "stop m 0"), program("stop m (x + y) / 2")
        self.assertIsNone(programs_alike(ROOTS, one, other))
        for third in (program("stop m x"), program("stop n"), program("if y = x", "stop m y", "end", "stop m 1")):
            self.assertTrue(apart_points(ROOTS, one, third) == apart_points(ROOTS, other, third)
                            == apart_points(ROOTS, third, one))


class FaultTest(Case):

    def setUp(self):
        self.one = program("if x = y", "stop m 1, x", "end", "stop n x")
        self.other = program("if x = y", "stop m 1, y + 1", "end", "stop n y")
        self.same = tower("x: x**2 - 2", "y: y - x")
        self.unlike = tower("x: x**2 - 2", "y: y + x")

    def judged(self, word, *attributes):
        """Check the word for an Apart with these attributes."""
        self.assertEqual(apart_fault(ROOTS, self.one, self.other, Apart(*attributes)), word)

    def test_right_ones(self):
        self.judged(None, self.same, "m", "m", 1)
        self.judged(None, self.unlike, "n", "n", 0)
        self.assertIsNone(apart_fault(PAIR, LONG, SHORT, Apart(tower("x: x - 1"), "mm", "nn", None)))
        none = Apart(tower("x: x**2 - x"), "m", "m", None)
        self.assertIsNone(apart_fault(PAIR, program("stop m"), program("stop m x"), none))
        both = Apart(tower("x: x"), "end", "broken", None)
        self.assertIsNone(apart_fault(PAIR, program(), program("stop m 1 / x"), both))

    def test_apart(self):
        for thing in (*ODD_THINGS, Apart, self.same, Piece(self.same, ())):
            self.assertEqual(apart_fault(ROOTS, self.one, self.other, thing), "apart")

    def test_tower(self):
        for thing in (*ODD_THINGS, Apart(self.same, "m", "m", 1), ROOTS, Tower, tower("x: x**2 - 2"),
                      tower("y: y**2 - 2", "x: x - y"), tower("x: x**2 - 2", "y: y - x", "z: z"), tower(),
                      tower("x: x**2 - t", "y: y - x"), tower("x: x**2 - 2", "y: y**2 - 2*x*y + 2"),
                      tower("x: x**2 - 3", "y: y - x"), tower("x: x**2 - 2", "y: y - 1"),
                      tower("x: x**4 - 5*x**2 + 6", "y: y - x"), tower("x: x**2 - 2", "y: y**3 - 2*y")):
            self.judged("tower", thing, "m", "m", 1)
            self.judged("tower", thing, None, [], -1)

    def test_a_tower_that_is_not_plain_but_has_only_points_of_the_system(self):
        double = system("x: x**2 - 2*x + 1")
        apart = Apart(tower("x: x**2 - 2*x + 1"), "m", "n", None)
        self.assertEqual(apart_fault(double, program("stop m"), program("stop n"), apart), "tower")
        apart = Apart(tower("x: x - 1"), "m", "n", None)
        self.assertIsNone(apart_fault(double, program("stop m"), program("stop n"), apart))

    def test_mark(self):
        for thing in (*ODD_THINGS, "n", "end", "broken", self.same):
            self.judged("mark", self.same, thing, "m", 1)
            self.judged("mark", self.same, thing, thing, "place")
        self.judged("mark", tower("x: x**2 - 2", "y: y**2 - 2"), "m", "m", 1)
        self.judged("mark", tower("x: x**2 - 2", "y: y**2 - 2"), "n", "m", 1)

    def test_other(self):
        for thing in (*ODD_THINGS, "n", "end", self.same):
            self.judged("other", self.same, "m", thing, 1)
            self.judged("other", self.same, "m", thing, None)
        told = Apart(tower("x: x**2 - x"), "nn", "nn", 0)
        self.assertEqual(apart_fault(PAIR, SHORT, LONG, told), "other")
        self.assertEqual(apart_fault(PAIR, LONG, SHORT, told), "mark")

    def test_place(self):
        # None, but the marks are the same and have as many values.
        self.judged("place", self.same, "m", "m", None)
        self.assertEqual(apart_fault(PAIR, program(), program(), Apart(tower("x: x"), "end", "end", None)), "place")
        # No whole number below the number of values.
        for thing in (*ODD_THINGS, -1, 2, "1", (1,), self.same):
            if thing.__class__ is not int or thing != 1:
                self.judged("place", self.same, "m", "m", thing)
        self.assertEqual(apart_fault(PAIR, program(), program(), Apart(tower("x: x"), "end", "end", 0)), "place")
        # The marks differ, or their numbers of values.
        for place in (0, 1, -1, True, "0"):
            self.assertEqual(apart_fault(PAIR, LONG, SHORT, Apart(tower("x: x - 1"), "mm", "nn", place)), "place")
            told = Apart(tower("x: x - 1"), "m", "m", place)
            self.assertEqual(apart_fault(PAIR, program("stop m x"), program("stop m x, 2"), told), "place")
        # The two values are equal at all points, or at some.
        self.judged("place", self.same, "m", "m", 0)
        told = Apart(tower("x: x**2 - x"), "m", "m", 0)
        self.assertEqual(apart_fault(PAIR, program("stop m x"), program("stop m 1"), told), "place")
        told = Apart(tower("x: x"), "m", "m", 0)
        self.assertIsNone(apart_fault(PAIR, program("stop m x"), program("stop m 1"), told))

    def test_values_told_by_several_lots(self):
        one = program("if x = y", "stop m 5", "end", "stop m 6")
        whole = Apart(tower("x: x**2 - 2", "y: y**2 - 2"), "m", "m", 0)
        self.assertIsNone(apart_fault(ROOTS, one, program("stop m 7"), whole))
        self.assertEqual(apart_fault(ROOTS, one, program("stop m 6"), whole), "place")
        self.assertIsNone(apart_fault(ROOTS, one, program("if x = y", "stop m 6", "end", "stop m 5"), whole))


class ErrorsTest(Case):

    def test_the_free_letter_then_letters_of_one_then_of_other(self):
        free = system("x: x**2 - 2", free=True)
        calls = (programs_alike, apart_points, lambda *told: apart_fault(*told, None),
                 lambda *told: apart_fault(*told, Apart(None, None, None, None)))
        for call in calls:
            self.refused(HasFree, {}, call, free, program("stop m y"), program("stop m z"))
            self.refused(HasFree, {}, call, free, program(), program())
            self.refused(LackingLetter, {"letter": "y"}, call, PAIR, program("stop m y + z"), program("stop m t"))
            self.refused(LackingLetter, {"letter": "t"}, call, PAIR, program("stop m x"), program("stop m t + y"))

    def test_letters_are_refused_though_no_way_reads_them(self):
        never = program("for 0 times", "stop m y", "end")
        self.refused(LackingLetter, {"letter": "y"}, programs_alike, PAIR, program("stop m"), never)
        self.refused(LackingLetter, {"letter": "y"}, apart_points, PAIR, never, program("stop m t"))


class PointsTest(Case):

    def test_the_points_of_a_split_system(self):
        one, roots = split_system(dice_of(521), (2, 2))
        self.is_form(apart_points(one, program("stop m"), program()), one.letters,
                     {point: () for point in set(points_of(roots))})


if __name__ == "__main__":
    unittest.main()
