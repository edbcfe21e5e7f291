"""[4.1] to [4.7]: words, expressions, lines and programs."""

import unittest

from neverfactored.errors import BadProgram
from neverfactored.programs import Program, is_mark, is_name
from tests.support import ODD_THINGS, Case

ONE = ("number", 1)
X = ("letter", "x")
TEST = ("=", X, ONE)
IF = ("if", (TEST,), ())
END = ("end",)
ELSE = ("else",)


def high(height):
    """Return an expression of this height."""
    found = ONE
    for _ in range(height - 1):
        found = ("negative", found)
    return found


def wide(parts):
    """Return an expression of so many parts, not too high."""
    if parts == 1:
        return ONE
    if parts == 2:
        return ("negative", ONE)
    left = (parts - 1) // 2
    return ("plus", wide(left), wide(parts - 1 - left))


class WordsTest(Case):

    def test_names(self):
        for word in ("aa", "ab", "zz", "abcdefgh", "stops", "elses", "lets", "tt", "xy", "broken", "or" + "a"):
            self.assertIs(is_name(word), True)
        for word in ("let", "if", "else", "end", "for", "times", "stop", "and", "or", "a", "t", "x", "x1", "aa1", "",
                     "abcdefghi", "Aa", "aA", "a a", " aa", "aa\n", "a_b", "\u00e9\u00e9", "\u00df\u00df", "12"):
            self.assertIs(is_name(word), False)

    def test_marks(self):
        for word in ("a", "t", "x", "let", "if", "else", "for", "times", "stop", "and", "or", "abcdefgh", "ends"):
            self.assertIs(is_mark(word), True)
        for word in ("broken", "end", "", "abcdefghi", "x1", "A", "a b", "a\t", "\u00e9", "1"):
            self.assertIs(is_mark(word), False)

    def test_other_things(self):
        for thing in ODD_THINGS:
            if not isinstance(thing, str):
                self.assertIs(is_name(thing), False)
                self.assertIs(is_mark(thing), False)
        for thing in (["aa"], ("aa",), b"aa", {"aa": 1}):
            self.assertIs(is_name(thing), False)
            self.assertIs(is_mark(thing), False)


class Refusals(Case):

    def wrong(self, lines, line, what):
        """Check with which line and word the lines are refused, as a list and as a tuple."""
        self.refused(BadProgram, {"line": line, "what": what}, Program, lines)
        self.refused(BadProgram, {"line": line, "what": what}, Program, list(lines))

    def alone(self, line, what):
        """Check with which word a line is refused, wherever it stands; None if it is not."""
        if what is None:
            self.assertEqual(Program((line,)).lines, (line,))
            self.assertEqual(Program((("let", "aa", ONE), line)).lines[1], line)
        else:
            self.wrong((line,), 0, what)
            self.wrong((("let", "aa", ONE), ("for", 2), line, END), 2, what)


class ExpressionsTest(Refusals):

    def expression(self, thing, right):
        """Check whether a thing is taken as an expression, wherever one stands."""
        what = None if right else "sign"
        self.alone(("let", "bb", thing), what)
        self.alone(("stop", "m", (thing,)), what)
        self.alone(("stop", "m", (ONE, ONE, thing)), what)
        self.alone(("let", "bb", ("times", thing, X)), what)
        for line in (("if", (("=", thing, ONE),), ()), ("if", (TEST, ("!=", X, thing)), ("or",))):
            if right:
                Program((line, END))
            else:
                self.wrong((line, END), 0, what)

    def test_each_kind(self):
        for thing in (("number", 0), ("number", 7), ("letter", "x"), ("letter", "t"), ("letter", "t9"),
                      ("letter", "a1"),
                      ("negative", X), ("plus", X, ONE), ("minus", X, ONE), ("times", X, ONE),
                      ("over", X, ("number", 0)),
                      ("power", X, 0), ("power", X, 4), ("over", ("negative", ("power", X, 2)), ("plus", ONE, ONE))):
            self.expression(thing, True)
        Program((("let", "aa", ONE), ("let", "bb", ("plus", ("name", "aa"), ("name", "aa")))))

    def test_things_that_are_none(self):
        for thing in ODD_THINGS + (("number",), ("number", 1, 2), ("number", True), ("number", False), ("number", "1"),
                                   ("number", -1), ("number", 1.0), ("number", None), ("letter", "xx"), ("letter", "T"),
                                   ("letter", "x0"), ("letter", "x10"), ("letter", 1), ("letter",), ("name", "x"),
                                   ("name", "let"), ("name", "aa1"), ("name", None), ("negative",), ("negative", 1),
                                   ("negative", X, X), ("plus", X), ("plus", X, X, X), ("plus", X, 1), ("plus", [], X),
                                   ("power", X, 5), ("power", X, -1), ("power", X, True), ("power", X),
                                   ("power", X, ONE),
                                   ("power", X, 2, 2), ("power", "x", 2), ["number", 1], ("Number", 1), (1, 2),
                                   (("number", 1),), ("sum", X, X), (None, X), ("letter", ("x",)), ("times", X, "x"),
                                   ("number", (1, 1)), ("over", X, ("over", X))):
            self.expression(thing, False)

    def test_numbers(self):
        self.expression(("number", 10 ** 300 - 1), True)
        self.expression(("number", 10 ** 300), False)
        self.expression(("number", 10 ** 5000), False)

    def test_height(self):
        self.alone(("let", "aa", high(40)), None)
        self.alone(("let", "aa", high(41)), "sign")
        self.alone(("let", "aa", ("plus", ONE, high(39))), None)
        self.alone(("let", "aa", ("plus", ONE, high(40))), "sign")
        self.alone(("let", "aa", ("power", high(40), 1)), "sign")

    def test_parts(self):
        self.alone(("let", "aa", wide(400)), None)
        self.alone(("let", "aa", wide(401)), "sign")
        self.alone(("stop", "m", (wide(400), wide(400), wide(400))), None)
        self.alone(("stop", "m", (wide(400), wide(401))), "sign")

    def test_a_part_that_stands_several_times_counts_each_time(self):
        shared = wide(199)
        self.alone(("let", "aa", ("plus", shared, shared)), None)
        self.alone(("let", "aa", ("negative", ("plus", shared, shared))), None)
        self.alone(("let", "aa", ("negative", ("negative", ("plus", shared, shared)))), "sign")

    def test_nested_thousands_deep(self):
        self.alone(("let", "aa", high(5000)), "sign")
        self.alone(("stop", "m", (ONE, high(100000))), "sign")
        left = ONE
        for _ in range(20000):
            left = ("plus", left, ONE)
        self.alone(("let", "aa", left), "sign")
        bare = ()
        for _ in range(50000):
            bare = (bare,)
        for line in (("let", "aa", bare), ("let", "aa", ("negative", bare))):
            self.alone(line, "sign")
        self.alone(("let", bare, ONE), "sign")
        self.alone(("stop", bare, ()), "mark")
        self.alone(("for", bare), "times")
        self.alone((bare,), "word")
        self.alone(bare, "word")

    def test_doubled_dozens_of_times(self):
        found = X
        for _ in range(39):
            found = ("plus", found, found)
        self.alone(("let", "aa", found), "sign")
        for _ in range(60):
            found = ("times", found, found)
        self.alone(("stop", "m", (found,)), "sign")


class LinesTest(Refusals):

    def test_word(self):
        for line in ODD_THINGS + (["end"], ("End",), ("and",), ("times",), (None, 1), (("end",),), ("let",),
                                  ("let", "aa"), ("let", "aa", ONE, ONE), ("if",), ("if", (TEST,)),
                                  ("if", (TEST,), (), ()), ("else", ()), ("else", 1), ("end", 1), ("for",),
                                  ("for", 1, 1), ("stop",), ("stop", "m"), ("stop", "m", (), ()), ["let", "aa", ONE]):
            self.alone(line, "word")

    def test_let(self):
        for name in ("x", "t", "x1", "t1", "z9"):
            self.alone(("let", name, ONE), "letter")
            self.alone(("let", name, None), "letter")
        for name in ("let", "aa1", "", "abcdefghi", "Aa", None, 1, ("aa",), ["aa"], b"aa"):
            self.alone(("let", name, ONE), "sign")
        self.alone(("let", "aa", None), "sign")
        self.alone(("let", "aa", [ONE]), "sign")
        self.alone(("let", "abcdefgh", ONE), None)

    def test_for(self):
        for times in (0, 6):
            self.assertEqual(len(Program((("for", times), END))), 2)
        for times in (-1, 7, True, False, None, "3", 2.0, (1,), [1], 10 ** 30):
            self.alone(("for", times), "times")

    def test_stop(self):
        for mark in ("broken", "end", "", "abcdefghi", "x1", "A", None, 1, ("m",), ["m"]):
            self.alone(("stop", mark, ()), "mark")
            self.alone(("stop", mark, None), "mark")
        for values in (None, [], [ONE], 1, "x", (ONE, ONE, ONE, ONE), (None, None, None, None)):
            self.alone(("stop", "m", values), "values")
        for values in ((None,), (ONE, 1), (ONE, ONE, ()), ([],)):
            self.alone(("stop", "m", values), "sign")
        for values in ((), (ONE,), (ONE, X), (ONE, X, ONE)):
            self.alone(("stop", "let", values), None)

    def test_if(self):
        for many in range(1, 7):
            line = ("if", (TEST,) * many, ("and",) * (many - 1))
            self.assertEqual(Program([line, END]).lines[0], line)
        for tests, joins in (((), ()), ((TEST,) * 7, ("and",) * 6), ((TEST,), ("and",)), ((TEST, TEST), ()),
                             ((TEST, TEST), ("and", "or")), ((TEST, TEST), ("xor",)), ((TEST, TEST), (None,)),
                             ([TEST], ()), ((TEST,), []), (TEST, ()), ((["=", X, ONE],), ()), ((("=", X),), ()),
                             ((("=", X, ONE, ONE),), ()), ((("<", X, ONE),), ()), ((("==", X, ONE),), ()),
                             (((None, X, ONE),), ()), ((("=", X, None),), ()), ((("=", None, X),), ()), (None, ()),
                             ((TEST,), None), ((TEST, TEST), "and"), ((TEST, TEST), ("AND",)), (((),), ()),
                             (((("=",), X, ONE),), ()), ((TEST, TEST), (("and",),))):
            self.alone(("if", tests, joins), "sign")
        self.assertEqual(len(Program([("if", (TEST, ("!=", X, X), TEST), ("or", "and")), END])), 2)


class ProgramFaultsTest(Refusals):

    def test_many(self):
        self.assertEqual(len(Program([("let", "aa", ONE)] * 60)), 60)
        self.wrong([("let", "aa", ONE)] * 61, 60, "many")
        self.wrong([None] * 61, 60, "many")
        self.wrong([END] * 200, 60, "many")
        for thing in (None, 1, "", "end", {}, set(), ONE.__iter__(), b"", range(2), {"end": 1}):
            self.refused(BadProgram, {"line": 0, "what": "many"}, Program, thing)
        self.refused(BadProgram, {"line": 0, "what": "many"}, Program, Program(()))

    def test_end(self):
        self.wrong((END,), 0, "end")
        self.wrong((ELSE,), 0, "end")
        self.wrong((IF, ELSE, ELSE, END), 2, "end")
        self.wrong((("for", 1), ELSE, END), 1, "end")
        self.wrong((IF, ("for", 1), ELSE, END, END), 2, "end")
        self.wrong((IF, END, END), 2, "end")
        self.wrong((IF, END, ELSE), 2, "end")
        self.wrong((IF, ELSE, IF, ELSE, ELSE), 4, "end")

    def test_a_block_without_an_end_line(self):
        self.wrong((IF,), 0, "end")
        self.wrong((("for", 2),), 0, "end")
        self.wrong((IF, ELSE), 0, "end")
        self.wrong((IF, ("for", 2), IF, END), 1, "end")
        self.wrong((("for", 2), END, IF, IF, END, ELSE), 2, "end")
        self.wrong((IF, IF, ELSE), 1, "end")

    def test_times(self):
        for times in ((6, 6), (6, 6, 1), (4, 3, 3), (6, 0, 6, 6), (0, 6, 6, 6), (1,) * 20 + (6, 6), (2, 3, 6)):
            lines = [("for", count) for count in times] + [END] * len(times)
            self.assertEqual(len(Program(lines)), len(lines))
        for times, line in (((6, 6, 2), 2), ((6, 6, 6, 0), 2), ((5, 5, 2), 2), ((4, 5, 2), 2), ((2, 3, 6, 1, 2), 4)):
            self.wrong([("for", count) for count in times] + [END] * len(times), line, "times")
        self.wrong((("for", 6), IF, ("for", 6), ELSE, ("for", 2), END, END, END, END), 3, "end")
        self.wrong((("for", 6), IF, ("for", 6), END, ELSE, ("for", 6), ("for", 2), END, END, END, END), 6, "times")
        self.assertEqual(len(Program((("for", 6), ("for", 6), END, ("for", 6), END, END, ("for", 6), END))), 8)

    def test_times_count_where_no_way_comes(self):
        self.wrong((("stop", "m", ()), ("for", 6), ("for", 6), ("for", 6), END, END, END), 3, "times")

    def test_values(self):
        self.wrong((("stop", "m", ()), ("stop", "m", (ONE,))), 1, "values")
        self.wrong((IF, ("stop", "m", (ONE,)), ELSE, ("stop", "n", ()), END, ("stop", "n", (ONE,)), ("stop", "m", ())),
                   5, "values")
        self.assertEqual(len(Program((("stop", "m", (ONE,)), ("stop", "n", ()), ("stop", "m", (X,))))), 3)

    def test_name(self):
        use = ("let", "aa", ("name", "bb"))
        self.wrong((use,), 0, "name")
        self.wrong((("let", "aa", ("name", "aa")),), 0, "name")
        self.wrong((("let", "bb", ONE), use, ("stop", "m", (ONE, ("power", ("name", "cc"), 0)))), 2, "name")
        self.wrong((("if", (TEST, ("=", X, ("name", "aa"))), ("or",)), END), 0, "name")
        self.wrong((IF, ("let", "aa", ONE), END, ("stop", "m", (("name", "aa"),))), 3, "name")
        self.wrong((IF, ("let", "aa", ONE), ELSE, ("let", "bb", ("name", "aa")), END), 3, "name")
        self.wrong((("for", 0), ("let", "aa", ONE), END, ("stop", "m", (("name", "aa"),))), 3, "name")
        self.wrong((("for", 2), ("stop", "m", (("name", "aa"),)), ("let", "aa", ONE), END), 1, "name")

    def test_names_where_no_way_comes(self):
        use = ("let", "aa", ("name", "bb"))
        for lines in ((("for", 0), use, END), (("stop", "m", ()), use), (IF, ("stop", "m", ()), use, END),
                      (IF, ("stop", "m", ()), ELSE, ("stop", "m", ()), END, use),
                      (IF, ("let", "bb", ONE), ELSE, ("stop", "m", ()), END, use)):
            self.assertEqual(Program(lines).lines, lines)

    def test_faults_of_unlike_kinds(self):
        odd = ("let", "x", ONE)
        self.wrong([odd] + [END] * 60, 60, "many")
        self.wrong((END, ("stop", "m", ()), ("stop", "m", (ONE,)), ("for", 7)), 3, "times")
        self.wrong((("let", "aa", ("name", "bb")), odd), 1, "letter")
        self.wrong((("for", 6), ("for", 6), ("for", 6), END), 1, "end")
        self.wrong((("stop", "m", ()), ("stop", "m", (ONE,)), ("for", 6), ("for", 6), ("for", 6), END, END, END),
                   4, "times")
        self.wrong((("let", "aa", ("name", "bb")), ("stop", "m", ()), ("stop", "m", (ONE,))), 2, "values")
        self.wrong((IF, END, END, ("let", "aa", ("name", "bb")), ("stop", "m", ()), ("stop", "m", (ONE,))), 2, "end")
        self.wrong((("stop", "end", None), ("no",)), 0, "mark")


class ProgramTest(Case):

    def setUp(self):
        self.lines = (("let", "bb", ("plus", ("letter", "y"), ("letter", "t"))), ("for", 0),
                      ("let", "aa", ("letter", "x1")), END, ("if", (("=", ("letter", "x"), ("name", "bb")),), ()),
                      ("stop", "zz", (("letter", "a"), ONE)), ELSE, ("stop", "mm", ()), END, ("let", "cc", ONE),
                      ("stop", "zz", (ONE, ("letter", "y"))))

    def test_attributes(self):
        program = Program(list(self.lines))
        self.assertEqual(program.lines, self.lines)
        self.assertIs(program.lines.__class__, tuple)
        self.assertEqual(program.letters, ("a", "t", "x", "x1", "y"))
        self.assertEqual(program.names, ("aa", "bb", "cc"))
        self.assertEqual(program.marks, (("mm", 0), ("zz", 2)))

    def test_an_empty_program(self):
        program = Program([])
        self.assertEqual((program.lines, program.letters, program.names, program.marks), ((), (), (), ()))
        self.assertEqual((len(program), list(program)), (0, []))

    def test_len_and_iteration(self):
        program = Program(self.lines)
        self.assertEqual(len(program), 11)
        self.assertEqual(tuple(program), self.lines)
        self.assertEqual([line[0] for line in program][:3], ["let", "for", "let"])
        self.assertEqual(tuple(program), tuple(program))

    def test_equal(self):
        self.assertTrue(Program(self.lines) == Program(list(self.lines)))
        self.assertFalse(Program(self.lines) == Program(self.lines[:-1]))
        self.assertFalse(Program([("stop", "m", ())]) == Program([("stop", "n", ())]))
        self.assertTrue(Program(()) == Program([]))

    def test_a_list_that_is_changed_later(self):
        lines = list(self.lines)
        program = Program(lines)
        lines[0] = END
        lines.clear()
        self.assertEqual(program.lines, self.lines)
        self.assertTrue(program == Program(self.lines))

    def test_lists_within_are_refused(self):
        self.refused(BadProgram, {"line": 0, "what": "sign"}, Program, [("if", [TEST], ())])
        self.refused(BadProgram, {"line": 0, "what": "values"}, Program, [("stop", "m", [ONE])])
        self.refused(BadProgram, {"line": 0, "what": "sign"}, Program, [("let", "aa", ["number", 1])])


if __name__ == "__main__":
    unittest.main()
