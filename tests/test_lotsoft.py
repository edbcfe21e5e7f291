"""[9.7] to [9.12]: the values of t at which something holds."""

import unittest

from neverfactored.errors import BadPrefix, BadSaying, LackingLetter, NoFree
from neverfactored.forms import system_form
from neverfactored.freelots import FreeLot
from neverfactored.lotsoft import count_lots, lot_of_t, same_for_all
from neverfactored.markvalues import marks_counted
from neverfactored.prefixes import Saying, ask_saying
from neverfactored.programs import Program
from neverfactored.sameness import apart_points, programs_alike
from tests.support import (
    ODD_THINGS, SAMPLES, Case, changed_program, dice_of, p, program, ratio_roots, some_free_system, some_program,
    split_system, system, with_number)

NONE = FreeLot("roots", ((1, 1),))
WHOLE = FreeLot("all but", ((1, 1),))
FREE = system("x: x**2 - t", free=True)
TOLD = program("if x = 1", "stop aa", "end")
SHAPES = ((1,), (2,), (3,), (2, 2), (1, 2), (2, 1), (1, 1, 2), (4,))
WORDS = ("some", "all", ("just", 0), ("just", 1), ("just", 2))


def roots(text):
    """Return the free lot of the roots of a poly."""
    return FreeLot("roots", p(text))


def all_but(text):
    """Return the free lot of all numbers but the roots of a poly."""
    return FreeLot("all but", p(text))


def free_systems(seed, many):
    """Yield dice and systems with the free letter, one by one, the points of some of them ratios."""
    dice = dice_of(seed)
    for turn in range(many):
        shape = SHAPES[turn % len(SHAPES)]
        if turn % 3 == 0 and len(shape) < 3 and shape != (4,):
            yield dice, split_system(dice, shape, with_t=True)[0]
        else:
            yield dice, some_free_system(dice, shape)


def at(told, number):
    """Return a program with t read as a ratio."""
    return Program(with_number(told.lines, number))


def numbers_for(*polys):
    """Return the samples and all small ratios that are roots of the polys."""
    return sorted(set(SAMPLES).union(*map(ratio_roots, polys)))


class LotOfTest(Case):

    def held(self, one, told, mark, words, lot):
        """Check the free lot of a saying."""
        self.assertTrue(lot_of_t(one, Saying(told, mark, words)) == lot)

    def test_at_ratios(self):
        kinds = {}
        for dice, one in free_systems(659, 100):
            told = some_program(dice, one.letters + ("t",))
            mark = dice.choice([mark for mark, _ in told.marks] + ["end", "broken"])
            words = [dice.choice(WORDS) for _ in one.letters]
            lot = lot_of_t(one, Saying(told, mark, words))
            self.assertIsInstance(lot, FreeLot)
            for number in numbers_for(lot.poly):
                right = ask_saying(one.at_free(number), Saying(at(told, number), mark, words))
                self.assertIs(number in lot, right)
            kind = (lot.kind, len(lot.poly) > 1)
            kinds[kind] = kinds.get(kind, 0) + 1
        self.assertEqual(len(kinds), 4)
        self.assertGreater(min(kinds.values()), 5)

    def test_at_roots_that_are_no_ratios(self):
        looked = 0
        for dice, one in free_systems(661, 60):
            told = some_program(dice, one.letters + ("t",))
            mark = dice.choice([mark for mark, _ in told.marks] + ["end", "broken"])
            words = [dice.choice(WORDS) for _ in one.letters]
            lot = lot_of_t(one, Saying(told, mark, words))
            if len(lot.poly) > 1:
                # At each root the saying holds, or at none: as one more letter t has the word "all" or ("just", 0).
                word = "all" if lot.kind == "roots" else ("just", 0)
                special = one.special(lot.poly)
                self.assertIs(ask_saying(special, Saying(told, mark, words + [word])), True)
                looked += len(ratio_roots(lot.poly)) < len(lot.poly) - 1
        self.assertGreater(looked, 3)

    def test_of_9_12(self):
        for word, lot in (("some", roots("t - 1")), (("just", 1), roots("t - 1")), ("all", NONE),
                          (("just", 0), all_but("t - 1")), (("just", 2), NONE)):
            self.held(FREE, TOLD, "aa", [word], lot)

    def test_roots_that_are_no_ratios(self):
        told = program("if x = t", "stop m", "end")
        one = system("x: x**3 + t*x - 2", free=True)
        self.held(one, told, "m", ["some"], roots("t**3 + t**2 - 2"))
        self.held(one, told, "end", ["all"], all_but("t**3 + t**2 - 2"))
        self.held(system("x: x**2 - 2", free=True), told, "m", ["some"], roots("t**2 - 2"))

    def test_numbers_of_unlike_points(self):
        one = system("x: x**3 - 3*x + t", free=True)
        stop = program("stop m")
        self.held(one, stop, "m", [("just", 3)], all_but("t**2 - 4"))
        self.held(one, stop, "m", [("just", 2)], roots("t**2 - 4"))
        self.held(one, stop, "m", [("just", 1)], NONE)
        self.held(one, stop, "m", ["all"], WHOLE)
        self.held(one, stop, "end", ["some"], NONE)

    def test_several_letters(self):
        one = system("x: x**2 - t", "y: y**2 - x", free=True)
        told = program("if y = 1", "stop m", "end")
        self.held(one, told, "m", ["some", "some"], roots("t - 1"))
        self.held(one, told, "end", ["all", "some"], WHOLE)
        self.held(one, told, "end", ["all", "all"], all_but("t - 1"))
        self.held(one, told, "end", [("just", 2), "all"], all_but("t**2 - t"))
        self.held(one, told, "end", [("just", 1), "some"], roots("t**2 - t"))
        self.held(one, told, "end", [("just", 1), "all"], roots("t"))
        self.held(one, told, "end", [("just", 1), ("just", 1)], roots("t**2 - t"))

    def test_t_in_the_program_alone(self):
        one = system("x: x**2 - x", free=True)
        told = program("if t * t = 2 or x = t", "stop m", "end")
        self.held(one, told, "m", ["some"], roots("t**4 - t**3 - 2*t**2 + 2*t"))
        self.held(one, told, "m", ["all"], roots("t**2 - 2"))
        self.held(one, told, "m", [("just", 1)], roots("t**2 - t"))
        self.held(one, program("let aa = 1 / (t * t + 1)"), "broken", ["all"], roots("t**2 + 1"))

    def test_t_nowhere(self):
        one = system("x: x**2 - 2", free=True)
        self.held(one, program("if x = 1", "stop m", "end"), "m", ["some"], NONE)
        self.held(one, program("stop m"), "m", ["all"], WHOLE)

    def test_errors(self):
        told = program("stop m y")
        special = FREE.special(p("t - 2"))
        bound = system("x: x**2 - 2")
        for one, many in ((FREE, 0), (FREE, 2), (bound, 0), (bound, 3), (special, 1), (special, 4)):
            self.refused(BadPrefix, {"many": many}, lot_of_t, one, Saying(told, "m", ["some"] * many))
        self.refused(NoFree, {}, lot_of_t, bound, Saying(told, "m", ["some"]))
        self.refused(NoFree, {}, lot_of_t, special, Saying(program("stop m"), "m", ["some"] * 2))
        self.refused(LackingLetter, {"letter": "y"}, lot_of_t, FREE, Saying(program("stop m t + z + y"), "m", ["all"]))


class SameTest(Case):

    def same_at(self, one, told, other, lot):
        """Check the free lot of the values of t at which two programs do the same."""
        self.assertTrue(same_for_all(one, told, other) == lot)
        self.assertTrue(same_for_all(one, other, told) == lot)

    def test_at_ratios(self):
        kinds = {}
        for dice, one in free_systems(673, 110):
            told = some_program(dice, one.letters + ("t",))
            other = changed_program(dice, told) if dice.random() < 0.7 else some_program(dice, one.letters + ("t",))
            lot = same_for_all(one, told, other)
            self.assertIsInstance(lot, FreeLot)
            for number in numbers_for(lot.poly):
                alike = programs_alike(one.at_free(number), at(told, number), at(other, number)) is None
                self.assertIs(number in lot, alike)
            if len(lot.poly) > 1:
                apart = apart_points(one.special(lot.poly), told, other)
                self.assertTrue(apart.count == 0 if lot.kind == "roots" else apart.count > 0)
            kind = (lot.kind, len(lot.poly) > 1)
            kinds[kind] = kinds.get(kind, 0) + 1
        self.assertEqual(len(kinds), 4)

    def test_alike_for_all_for_none_and_for_some(self):
        self.same_at(FREE, program("stop m x * x"), program("stop m t"), WHOLE)
        self.same_at(FREE, program("stop m x"), program("stop m x + 1"), NONE)
        self.same_at(FREE, program("stop m x"), program("stop m -x"), roots("t"))
        self.same_at(FREE, program("stop m x ** 3, 1"), program("stop m t * x, t"), roots("t - 1"))
        self.same_at(FREE, program("stop m x ** 3"), program("stop m 2 * x"), roots("t**2 - 2*t"))
        self.same_at(FREE, program("if x = t", "end", "stop m"), program("stop m"), WHOLE)

    def test_marks_and_numbers_of_values(self):
        self.same_at(FREE, program("stop m"), program("stop n"), NONE)
        self.same_at(FREE, program("stop m"), program("stop m t"), NONE)
        self.same_at(FREE, program("stop m t"), program("if t = 0", "stop n t", "end", "stop m t"), all_but("t"))
        self.same_at(FREE, TOLD, program(), all_but("t - 1"))
        self.same_at(FREE, program("let aa = 1 / (x - 2)"), program("let aa = 1 / x"), all_but("t**2 - 4*t"))
        self.same_at(FREE, program("let aa = 1 / x"), program("let aa = 1 / t"), WHOLE)

    def test_each_of_several_values_must_be_alike(self):
        self.same_at(FREE, program("stop m t, x ** 3, 0"), program("stop m 1, x, 0"), roots("t - 1"))
        self.same_at(FREE, program("stop m t, x ** 3"), program("stop m 2, x"), NONE)
        self.same_at(FREE, program("stop m t * t, t"), program("stop m 1, x * x"), roots("t**2 - 1"))

    def test_several_roots_at_once(self):
        one = system("x: x - 3", free=True)
        for poly, left, right, lot in (("t * t - 3 * t + 2", "t * x", "x", all_but("t - 2")),
                                       ("t * t - 3 * t + 2", "t * x, t", "x, 1", all_but("t - 2")),
                                       ("t * t - 3 * t + 2", "t * x, 2", "x, t", all_but("t**2 - 3*t + 2")),
                                       ("t * t - 3 * t + 2", "t * t + x", "x + 3 * t - 2", WHOLE),
                                       ("t ** 3 - t * t - 2 * t + 2", "t ** 2 * x", "2 * x", all_but("t - 1")),
                                       ("t ** 3 - t * t - 2 * t + 2", "t * x", "x", all_but("t**2 - 2"))):
            told = [program(f"if {poly} = 0", "stop m " + values, "end", "stop n x") for values in (left, right)]
            self.same_at(one, *told, lot)

    def test_alike_at_some_points_only(self):
        # At each t one of the two points is alike, at t = 0 there is but one.
        one = system("x: x**2 - t*x", free=True)
        self.same_at(one, program("stop m x"), program("stop m 0"), roots("t"))
        self.same_at(one, program("if x = 0", "stop m", "end"), program("if x = t", "stop m", "end"), roots("t"))

    def test_errors(self):
        bound = system("x: x**2 - 2")
        wrong, worse = program("stop m y"), program("stop m z")
        self.refused(NoFree, {}, same_for_all, bound, wrong, worse)
        self.refused(NoFree, {}, same_for_all, FREE.special(p("t - 2")), program(), program())
        self.refused(LackingLetter, {"letter": "y"}, same_for_all, FREE, wrong, worse)
        self.refused(LackingLetter, {"letter": "z"}, same_for_all, FREE, program("stop m t"), worse)


class CountTest(Case):

    def test_at_ratios(self):
        sizes = {}
        for dice, one in free_systems(677, 100):
            told = some_program(dice, one.letters + ("t",))
            mark = dice.choice([mark for mark, _ in told.marks] + ["end", "broken", "zz"])
            found = count_lots(one, told, mark)
            self.right_lots(found)
            for number in numbers_for(*[lot.poly for _, lot in found]):
                right = dict(marks_counted(at(told, number), one.at_free(number))).get(mark, 0)
                self.assertEqual([many for many, lot in found if number in lot], [right])
            sizes[len(found)] = sizes.get(len(found), 0) + 1
        self.assertGreater(sizes[1], 10)
        self.assertGreater(sizes[2], 10)
        self.assertIn(3, sizes)

    def right_lots(self, found):
        """Check that each number is in exactly one of the lots, none of which is empty."""
        self.assertIs(found.__class__, tuple)
        numbers = [number for number, _ in found]
        self.same(tuple(numbers), tuple(sorted(set(numbers))))
        self.assertEqual([lot.kind for _, lot in found].count("all but"), 1)
        together = NONE
        for _, lot in found:
            self.assertFalse(lot == NONE)
            self.assertTrue(together & lot == NONE)
            together = together | lot
        self.assertTrue(together == WHOLE)

    def counted(self, one, told, mark, *rows):
        """Check the couples of a number and a free lot."""
        found = count_lots(one, told, mark)
        self.right_lots(found)
        self.assertEqual([number for number, _ in found], [number for number, _ in rows])
        self.assertTrue(all(lot == right for (_, lot), (_, right) in zip(found, rows)))

    def test_of_9_12(self):
        self.counted(FREE, TOLD, "aa", (0, all_but("t - 1")), (1, roots("t - 1")))
        self.counted(FREE, TOLD, "end", (1, roots("t**2 - t")), (2, all_but("t**2 - t")))

    def test_marks_that_no_point_has(self):
        for mark in ("zz", "broken"):
            self.counted(FREE, TOLD, mark, (0, WHOLE))

    def test_several_numbers(self):
        one = system("x: x**3 - 3*x + t", free=True)
        self.counted(one, program("stop m"), "m", (2, roots("t**2 - 4")), (3, all_but("t**2 - 4")))
        told = program("if t = 2 or t * t = 3 or t = 7 and x != 0", "stop m", "end")
        self.counted(one, told, "m", (0, all_but("t**4 - 9*t**3 + 11*t**2 + 27*t - 42")), (2, roots("t - 2")),
                     (3, roots("t**3 - 7*t**2 - 3*t + 21")))
        one = system("x: x**2 - t", "y: y**2 - x", free=True)
        self.counted(one, program("if y = 1 or x = t", "stop m", "end"), "m", (0, all_but("t**2 - t")), (1, roots("t")),
                     (2, roots("t - 1")))

    def test_t_nowhere(self):
        one = system("x: x**3 - 2*x", free=True)
        self.counted(one, program("if x != 0", "stop m", "end"), "m", (2, WHOLE))
        self.counted(one, program("if x = t", "stop m", "end"), "m", (0, all_but("t**3 - 2*t")), (1, roots("t**3 - 2*t")))

    def test_all_points_together(self):
        for dice, one in free_systems(683, 30):
            told = program("stop m")
            found = count_lots(one, told, "m")
            self.right_lots(found)
            for number in numbers_for(*[lot.poly for _, lot in found]):
                self.assertEqual([many for many, lot in found if number in lot],
                                 [system_form(one.at_free(number)).count])

    def test_errors(self):
        bound = system("x: x**2 - 2")
        for thing in ODD_THINGS:
            self.refused(BadSaying, {"what": "program"}, count_lots, bound, thing, None)
            if thing not in ("x", "xy"):
                self.refused(BadSaying, {"what": "mark"}, count_lots, bound, program("stop m y"), thing)
        self.refused(NoFree, {}, count_lots, bound, program("stop m y"), "m")
        self.refused(NoFree, {}, count_lots, FREE.special(p("t - 2")), program("stop m"), "m")
        self.refused(LackingLetter, {"letter": "y"}, count_lots, FREE, program("stop m t + z + y"), "zz")


if __name__ == "__main__":
    unittest.main()
