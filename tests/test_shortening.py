"""[7.6] to [7.9]: programs without sure ifs and without idle statements."""

import unittest

from neverfactored.errors import BadProgram, HasFree, LackingLetter
from neverfactored.plainruns import run_at
from neverfactored.programs import Program
from neverfactored.programtext import program_text
from neverfactored.sameness import programs_alike
from neverfactored.shortening import cut_sure_ways, drop_idle, shorten_program
from neverfactored.sureways import idle_lines, sure_ways
from neverfactored.ways import partner_lines
from tests.support import Case, dice_of, points_of, program, some_program, split_system, system

PAIR = system("x: x**2 - x")
ROOTS = system("x: x**2 - 2", "y: y**2 - 2")
SHAPES = ((1,), (2,), (4,), (2, 2), (3, 2), (2, 1, 2))
LONG = program("if x = 0 or x != 0", "let aa = 2", "else", "let aa = 3", "end", "if x = 1", "stop mm aa", "end",
               "stop nn aa")


def lines_left(told, ways):
    """Return the numbers of the lines that are left without these sure ifs, block by block."""
    partners = partner_lines(told.lines)
    left = list(range(len(told)))
    for line, yes in ways:
        middle, end = partners[line]
        taken = range(line + 1, middle or end) if yes else range((middle or end) + 1, end)
        left = [number for number in left if not line <= number <= end or number in taken]
    return left


def programs_by_dice(seed, many):
    """Yield systems, their points and programs, one by one."""
    dice = dice_of(seed)
    for turn in range(many):
        one, roots = split_system(dice, SHAPES[turn % len(SHAPES)])
        yield one, sorted(set(points_of(roots))), some_program(dice, one.letters, 3)


class CutTest(Case):

    def cut(self, before, after, one=PAIR):
        """Check the text of a program that is cut."""
        self.assertEqual(program_text(cut_sure_ways(program(*before), one)), program_text(program(*after)))

    def test_what_is_said_for_all_programs(self):
        several = 0
        for one, points, told in programs_by_dice(547, 160):
            ways = sure_ways(told, one)
            found = cut_sure_ways(told, one)
            self.assertIsInstance(found, Program)
            left = lines_left(told, ways)
            self.assertEqual(found.lines, tuple(told.lines[number] for number in left))
            self.assertIsNone(programs_alike(one, told, found))
            self.assertEqual(sure_ways(found, one), ())
            self.assertTrue(cut_sure_ways(found, one) == found)
            cut = [line for line, _ in ways]
            for point in points:
                row, other = run_at(told, one.letters, point), run_at(found, one.letters, point)
                self.assertEqual((row.mark, row.outputs), (other.mark, other.outputs))
                self.assertEqual([line for line in row.walked if line not in cut], [left[line] for line in other.walked])
                self.assertEqual([answer for answer in row.answers if answer[0] not in cut],
                                 [(left[line], test, yes) for line, test, yes in other.answers])
            several += len(ways) > 1
        self.assertGreater(several, 5)

    def test_of_7_9(self):
        left = program("let aa = 2", "if x = 1", "stop mm aa", "end", "stop nn aa")
        self.assertTrue(cut_sure_ways(LONG, PAIR) == left)
        self.assertTrue(shorten_program(LONG, PAIR) == left)
        self.assertTrue(drop_idle(LONG, PAIR) == LONG)

    def test_with_and_without_an_else_line(self):
        self.cut(("if x = x", "let aa = 1", "end", "stop m"), ("let aa = 1", "stop m"))
        self.cut(("if x = 5", "let aa = 1", "end", "stop m"), ("stop m",))
        self.cut(("if x = x", "let aa = 1", "else", "let bb = 1", "end"), ("let aa = 1",))
        self.cut(("if x = 5", "let aa = 1", "else", "let bb = 1", "end"), ("let bb = 1",))

    def test_ways_that_are_empty(self):
        self.cut(("if x = x", "else", "let aa = 1", "end", "stop m"), ("stop m",))
        self.cut(("if x = 5", "let aa = 1", "else", "end", "stop m"), ("stop m",))
        self.cut(("if x = x", "end"), ())
        self.cut(("if x = 5", "else", "end"), ())

    def test_sure_ifs_within_one_another(self):
        self.cut(("if x = x", "let aa = 1", "if x = 5", "let bb = 1", "else", "if x * x = x", "stop m aa", "end", "end",
                  "else", "stop n", "end", "stop p"), ("let aa = 1", "stop m aa", "stop p"))
        # The if within the block that is not taken falls with it.
        self.cut(("if x = 5", "if x = 1", "stop m", "end", "else", "if x = 1", "stop n", "end", "end"),
                 ("if x = 1", "stop n", "end"))

    def test_in_loops(self):
        self.cut(("let aa = x", "for 3 times", "if aa = x", "let bb = 1", "else", "stop m", "end", "end"),
                 ("let aa = x", "for 3 times", "let bb = 1", "end"))
        self.cut(("for 3 times", "if x = 5", "stop m", "end", "end"), ("for 3 times", "end"))

    def test_what_is_not_sure_stays(self):
        for lines in (("if x = 1", "else", "end"), ("let aa = 0", "for 2 times", "if aa = 0", "let aa = 1", "end", "end"),
                      ("if 1 / x = 1", "end"), ("for 0 times", "if x = x", "end", "end"),
                      ("stop m", "if x = x", "let bb = aa", "end"), ()):
            self.cut(lines, lines)

    def test_names_behind_the_way_that_is_taken(self):
        self.cut(("if x = x", "let aa = 1", "else", "stop n", "end", "stop m aa"), ("let aa = 1", "stop m aa"))
        self.cut(("if x = x", "stop n", "else", "let aa = 1", "end", "stop m aa"), ("stop n", "stop m aa"))

    def test_points_that_are_no_ratios(self):
        self.cut(("if x = y or x = -y", "if x * y = 2", "stop m", "end", "end"), ("if x * y = 2", "stop m", "end"), ROOTS)


class DropTest(Case):

    def dropped(self, before, after, one=PAIR):
        """Check the text of a program without idle statements."""
        self.assertEqual(program_text(drop_idle(program(*before), one)), program_text(program(*after)))

    def test_what_is_said_for_all_programs(self):
        shorter = 0
        for one, points, told in programs_by_dice(557, 160):
            found = drop_idle(told, one)
            self.assertIsInstance(found, Program)
            self.assertIsNone(programs_alike(one, told, found))
            self.assertTrue(drop_idle(found, one) == found)
            for point in points:
                row, other = run_at(told, one.letters, point), run_at(found, one.letters, point)
                self.assertEqual((row.mark, row.outputs), (other.mark, other.outputs))
                self.assertEqual([answer[1:] for answer in row.answers], [answer[1:] for answer in other.answers])
                self.assertEqual([told.lines[line] for line in row.walked], [found.lines[line] for line in other.walked])
            for first in idle_lines(found, one):
                self.assertRaises(BadProgram, Program, without_statement(found, first))
            shorter += len(found) < len(told)
        self.assertGreater(shorter, 20)

    def test_statements_of_each_kind(self):
        self.dropped(("if x = 5", "let aa = 1", "if x = 1", "end", "for 2 times", "let bb = 2", "end", "stop m", "end",
                      "stop n"), ("if x = 5", "end", "stop n"))
        self.dropped(("stop m", "let aa = 1", "if x = 1", "stop n", "else", "end", "for 2 times", "end", "stop n"),
                     ("stop m",))
        self.dropped(("for 0 times", "let aa = bb", "end", "stop m"), ("for 0 times", "end", "stop m"))

    def test_else_lines_stay(self):
        self.dropped(("if x = 5", "stop m", "else", "stop n", "end"), ("if x = 5", "else", "stop n", "end"))
        self.dropped(("if x = x", "stop m", "else", "let aa = 1", "stop n", "end"),
                     ("if x = x", "stop m", "else", "end"))

    def test_an_idle_let_whose_name_is_needed(self):
        self.dropped(("if x = x", "let aa = 2", "else", "let aa = 3", "let bb = 4", "end", "stop m aa"),
                     ("if x = x", "let aa = 2", "else", "let aa = 3", "end", "stop m aa"))
        # It is needed by an idle line alone, which falls ahead of it.
        self.dropped(("stop m", "let aa = 1", "let bb = aa", "stop n bb"), ("stop m",))
        self.dropped(("if x = 5", "let aa = 1", "let bb = aa", "end"), ("if x = 5", "end"))

    def test_an_idle_stop_behind_which_a_name_would_lack(self):
        lines = ("if x = 5", "stop m", "else", "let aa = 1", "end", "stop n aa")
        self.dropped(lines, lines)
        self.dropped(("if x = 5", "let bb = 1", "stop m", "else", "let aa = 1", "end", "stop n aa"), lines)

    def test_from_the_last_one_to_the_first(self):
        # The if line falls with the let line in it, which alone could not fall.
        self.dropped(("let bb = x", "if x = 5", "if x = 6", "let aa = 1", "else", "stop m", "end", "let bb = aa", "end",
                      "stop n bb"), ("let bb = x", "if x = 5", "end", "stop n bb"))
        self.dropped(("if x = x", "let aa = 1", "else", "let aa = 1", "let aa = 2", "end", "stop m aa"),
                     ("if x = x", "let aa = 1", "else", "let aa = 1", "end", "stop m aa"))

    def test_nothing_idle(self):
        for lines in ((), ("stop m",), ("if x = 1", "else", "end"), ("for 2 times", "end")):
            self.dropped(lines, lines)

    def test_points_that_are_no_ratios(self):
        self.dropped(("if x = y", "if x = -y", "stop m", "end", "end"), ("if x = y", "if x = -y", "end", "end"), ROOTS)


class ShortenTest(Case):

    def test_what_is_said_for_all_programs(self):
        shorter = 0
        for one, _, told in programs_by_dice(563, 120):
            found = shorten_program(told, one)
            self.assertTrue(found == drop_idle(cut_sure_ways(told, one), one))
            self.assertIsNone(programs_alike(one, told, found))
            self.assertTrue(shorten_program(found, one) == found)
            self.assertEqual(sure_ways(found, one), ())
            shorter += len(found) < len(told)
        self.assertGreater(shorter, 25)

    def test_followed_by_hand(self):
        told = program("let aa = x * x", "if aa = x", "for 0 times", "let aa = 7", "end", "stop m aa", "else",
                       "stop n", "end", "stop p")
        self.assertEqual(program_text(shorten_program(told, PAIR)), "let aa = x * x\nfor 0 times\nend\nstop m aa")
        self.assertTrue(shorten_program(program(), PAIR) == program())

    def test_the_program_is_not_changed(self):
        lines = LONG.lines
        for call in (cut_sure_ways, drop_idle, shorten_program):
            call(LONG, PAIR)
            self.assertEqual(LONG.lines, lines)


class ErrorsTest(Case):

    def test_the_free_letter_then_letters(self):
        free = system("x: x**2 - 2", free=True)
        for call in (cut_sure_ways, drop_idle, shorten_program):
            self.refused(HasFree, {}, call, program("stop m y"), free)
            self.refused(HasFree, {}, call, program(), free)
            self.refused(LackingLetter, {"letter": "t"}, call, program("stop m y + t"), PAIR)
            self.refused(LackingLetter, {"letter": "y"}, call, program("if x = 5", "stop m y", "end"), PAIR)

    def test_special_systems(self):
        special = system("x: x**2 - t", free=True).special(((-2, 1), (0, 1), (1, 1)))
        told = program("if t * t = 2", "stop m t", "end", "stop n")
        self.assertEqual(program_text(shorten_program(told, special)), "stop m t")


def without_statement(told, first):
    """Return the lines of a program without the statement that begins with this line."""
    partner = partner_lines(told.lines)[first]
    last = first if partner is None else partner[1]
    return told.lines[:first] + told.lines[last + 1:]


if __name__ == "__main__":
    unittest.main()
