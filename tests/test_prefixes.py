"""[9.1] to [9.3], [9.12]: sayings about some, all or just so many points over one another."""

import unittest

from neverfactored.errors import BadPrefix, BadSaying, HasFree, LackingLetter
from neverfactored.forms import Form, form_of, system_form
from neverfactored.joining import Piece
from neverfactored.prefixes import Saying, ask_saying, kept_points
from neverfactored.programforms import program_form
from tests.support import (
    ODD_THINGS, Case, dice_of, outcomes_at, p, program, some_program, split_system, system, tower)

SHAPES = ((2,), (3,), (2, 2), (3, 2), (2, 3), (1, 2), (2, 1, 2), (2, 2, 2), (1, 2, 2))
PAIR = system("x: x**2 - x", "y: y**2 - x")
TOLD = program("if y = 1", "stop aa", "end")


def some_word(dice):
    """Return a word by dice."""
    return dice.choice(("some", "all", ("just", 0), ("just", 1), ("just", 2), ["just", 3]))


def kept_at(points, marked, words):
    """Return the kept points of a system with these points, by counting; marked are those with the mark."""
    kept = set(marked)
    above = set(points)
    for word in words:
        beginnings = {point[:-1] for point in above}
        numbers = {point: sum(other[:-1] == point for other in kept) for point in beginnings}
        whole = {point: sum(other[:-1] == point for other in above) for point in beginnings}
        kept = {point for point in beginnings if holds(word, numbers[point], whole[point])}
        above = beginnings
    return kept


def holds(word, number, whole):
    """Return whether a point over which so many of the points are kept is kept by a word."""
    if word == "some":
        return number > 0
    return number == (whole if word == "all" else word[1])


class SayingTest(Case):

    def test_attributes(self):
        saying = Saying(TOLD, "aa", ["some", ["just", 2], ("just", 0), "all"])
        self.assertEqual(vars(saying), {"program": TOLD, "mark": "aa",
                                        "prefix": ("some", ("just", 2), ("just", 0), "all")})
        self.assertEqual([word.__class__ for word in saying.prefix], [str, tuple, tuple, str])
        self.assertEqual(Saying(TOLD, "end", ()).prefix, ())
        self.assertEqual(Saying(TOLD, "broken", []).prefix, ())
        self.assertEqual(Saying(TOLD, "zz", [("just", 24)]).prefix, (("just", 24),))

    def test_lists_that_change_later(self):
        couple = ["just", 2]
        prefix = ["some", couple]
        saying = Saying(TOLD, "aa", prefix)
        couple[1] = 3
        prefix.append("all")
        self.assertEqual(saying.prefix, ("some", ("just", 2)))

    def test_equal(self):
        one = Saying(TOLD, "aa", ("some", ("just", 1)))
        self.assertTrue(one == Saying(program("if y = 1", "stop aa", "end"), "aa", ["some", ["just", 1]]))
        for other in (Saying(program(), "aa", one.prefix), Saying(TOLD, "end", one.prefix), Saying(TOLD, "aa", ()),
                      Saying(TOLD, "aa", ("some", ("just", 2))), Saying(TOLD, "aa", (("just", 1), "some"))):
            self.assertFalse(one == other)

    def test_program(self):
        for thing in (*ODD_THINGS, TOLD.lines, "stop aa"):
            self.refused(BadSaying, {"what": "program"}, Saying, thing, "aa", ())
            self.refused(BadSaying, {"what": "program"}, Saying, thing, None, None)

    def test_mark(self):
        for thing in (*[thing for thing in ODD_THINGS if thing not in ("x", "xy")], "Aa", "a1", "abcdefghi", "aa ",
                      ("aa",), ["end"], TOLD):
            self.refused(BadSaying, {"what": "mark"}, Saying, TOLD, thing, ())
            self.refused(BadSaying, {"what": "mark"}, Saying, TOLD, thing, "some")
        for mark in ("x", "abcdefgh", "if", "stop", "broken", "end"):
            self.assertEqual(Saying(TOLD, mark, ()).mark, mark)

    def test_prefix(self):
        wrong = ("Some", "any", "just", "", ("just", 25), ("just", -1), ("just", True), ("just", False), ("just", "1"),
                 ("just",), ("just", 1, 2), ("some", 1), ("some",), ("just", 1.0), ("just", None), (1, "just"),
                 (["just"], 1), {"just": 1}, {"just", 1})
        for word in (*[thing for thing in ODD_THINGS], *wrong):
            self.refused(BadSaying, {"what": "prefix"}, Saying, TOLD, "aa", [word])
            self.refused(BadSaying, {"what": "prefix"}, Saying, TOLD, "aa", ("some", word))
        for prefix in (None, True, 1, "some", "", {}, {"some"}, TOLD, ("just", 2), ["just", 2], ("some",) * 5,
                       [["just", 1]] * 5):
            self.refused(BadSaying, {"what": "prefix"}, Saying, TOLD, "aa", prefix)
        self.assertEqual(len(Saying(TOLD, "aa", ["all"] * 4).prefix), 4)


class KeptTest(Case):

    def test_at_the_points(self):
        dice = dice_of(641)
        seen = {True: 0, False: 0}
        for turn in range(150):
            one, roots = split_system(dice, SHAPES[turn % len(SHAPES)])
            told = some_program(dice, one.letters)
            rows = outcomes_at(told, one, roots)
            mark = dice.choice([mark for mark, _ in told.marks] + ["end", "broken", "zz"])
            marked = [point for point, row in rows.items() if row.mark == mark]
            words = [some_word(dice) for _ in one.letters]
            for many in range(len(words)):
                form = kept_points(one, Saying(told, mark, words[:many]))
                kept = kept_at(rows, marked, words[:many])
                self.is_form(form, one.letters[:len(one.letters) - many], {point: () for point in kept})
            found = ask_saying(one, Saying(told, mark, tuple(words)))
            self.assertIs(found, kept_at(rows, marked, words) == {()})
            seen[found] += 1
        self.assertGreater(min(seen.values()), 30)

    def test_of_9_12(self):
        for words, held in ((("some", "all"), False), (("some", "some"), True), (("all", "some"), False),
                            (("all", "all"), False), ((("just", 1), ("just", 1)), True),
                            ((("just", 0), ("just", 1)), True), ((("just", 2), ("just", 0)), True)):
            self.assertIs(ask_saying(PAIR, Saying(TOLD, "aa", words)), held)
        self.assertTrue(kept_points(PAIR, Saying(TOLD, "end", ("all",))) == Form(("x",), [Piece(tower("x: x"), ())]))
        self.assertTrue(kept_points(PAIR, Saying(TOLD, "end", ())) ==
                        Form(("x", "y"), [Piece(tower("x: x**2 - x", "y: y + x"), ())]))

    def test_points_that_are_no_ratios(self):
        one = system("x: x**2 - 2", "y: y**2 - x*y - 1", "z: z**2 - 2")
        told = program("if z = x", "stop m", "end")
        for words, held in ((("some", "all", "all"), True), (("all", "some", "some"), False),
                            ((("just", 1), ("just", 2), ("just", 2)), True), (("some", "all", ("just", 1)), False)):
            self.assertIs(ask_saying(one, Saying(told, "m", words)), held)
        self.assertTrue(kept_points(one, Saying(told, "m", ())) == dict(program_form(told, one))["m"])
        self.assertTrue(kept_points(one, Saying(told, "m", ("some", "all"))) == form_of(("x",), [tower("x: x**2 - 2")]))
        self.assertTrue(kept_points(one, Saying(told, "m", ("all",))) == Form(("x", "y"), ()))

    def test_points_with_unlike_numbers_of_points_over_them(self):
        # Over x = 0 stands y = 0 alone, over x = 1 stand two.
        told = program("stop m")
        for words, kept in (((("just", 1),), "x: x"), ((("just", 2),), "x: x - 1"), (("all",), "x: x**2 - x"),
                            (("some",), "x: x**2 - x")):
            self.assertTrue(kept_points(PAIR, Saying(told, "m", words)) == form_of(("x",), [tower(kept)]))
        self.assertTrue(kept_points(PAIR, Saying(told, "m", (("just", 3),))) == Form(("x",), ()))

    def test_double_roots_count_once(self):
        one = system("x: x**2 - 2*x + 1", "y: y**4 - 2*y**2 + 1")
        self.assertIs(ask_saying(one, Saying(program("stop m"), "m", (("just", 2), ("just", 1)))), True)
        self.assertIs(ask_saying(one, Saying(program("stop m"), "m", (("just", 4), "some"))), False)

    def test_marks_that_no_point_has(self):
        for mark in ("zz", "broken"):
            self.assertTrue(kept_points(PAIR, Saying(TOLD, mark, ())) == Form(("x", "y"), ()))
            self.assertIs(ask_saying(PAIR, Saying(TOLD, mark, ("some", "some"))), False)
            self.assertIs(ask_saying(PAIR, Saying(TOLD, mark, ("all", "all"))), False)
            self.assertIs(ask_saying(PAIR, Saying(TOLD, mark, (("just", 0), "all"))), True)
            self.assertTrue(kept_points(PAIR, Saying(TOLD, mark, (("just", 0),))) ==
                            form_of(("x",), [tower("x: x**2 - x")]))

    def test_broken_and_end(self):
        told = program("let aa = 1 / y")
        self.assertTrue(kept_points(PAIR, Saying(told, "broken", ("some",))) == form_of(("x",), [tower("x: x")]))
        self.assertIs(ask_saying(PAIR, Saying(told, "end", ("all", ("just", 1)))), True)

    def test_special_systems(self):
        special = system("x: x**2 - t", free=True).special(p("t**2 - t"))
        told = program("if x = t", "stop m", "end")
        self.assertTrue(kept_points(special, Saying(told, "m", ("some",))) == form_of(("t",), [tower("t: t**2 - t")]))
        self.assertTrue(kept_points(special, Saying(told, "m", ("all",))) == form_of(("t",), [tower("t: t")]))
        self.assertTrue(kept_points(special, Saying(program("stop m"), "m", ())) == system_form(special))
        self.assertIs(ask_saying(special, Saying(told, "m", ("some", "all"))), True)
        self.assertIs(ask_saying(special, Saying(told, "m", (("just", 1), ("just", 1)))), False)
        many = system("x: x**2 - 2", "y: y**2 - x", "z: z - t*y", free=True).special(p("t**2 - t"))
        told = program("if z = 0", "stop m", "end")
        self.assertIs(ask_saying(many, Saying(told, "m", ("some", ("just", 2), "all", ("just", 1)))), True)
        self.assertTrue(kept_points(many, Saying(told, "m", ("all", "all", "all"))) == form_of(("t",), [tower("t: t")]))


class ErrorsTest(Case):

    def test_bad_prefix_ahead_of_the_others(self):
        free = system("x: x**2 - t", "y: y - t", free=True)
        told = program("stop m z")
        for one in (free, PAIR):
            for many in (2, 3, 4):
                self.refused(BadPrefix, {"many": many}, kept_points, one, Saying(told, "m", ["some"] * many))
            for many in (0, 1, 3, 4):
                self.refused(BadPrefix, {"many": many}, ask_saying, one, Saying(told, "m", ["some"] * many))
        for call, words in ((kept_points, ["all"]), (kept_points, []), (ask_saying, ["all", "all"])):
            self.refused(HasFree, {}, call, free, Saying(told, "m", words))
            self.refused(HasFree, {}, call, system("x: x", "y: y", free=True), Saying(program(), "m", words))
            self.refused(LackingLetter, {"letter": "z"}, call, PAIR, Saying(told, "m", words))
            self.refused(LackingLetter, {"letter": "t"}, call, PAIR, Saying(program("stop m t"), "m", words))

    def test_the_letters_of_special_systems_count(self):
        special = system("x: x**2 - t", free=True).special(p("t - 2"))
        self.refused(BadPrefix, {"many": 1}, ask_saying, special, Saying(program(), "m", ["some"]))
        self.refused(BadPrefix, {"many": 2}, kept_points, special, Saying(program(), "m", ["some"] * 2))


if __name__ == "__main__":
    unittest.main()
