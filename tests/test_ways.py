"""[4.4], [4.5] and what the interface tells of neverfactored/ways.py."""

import unittest

from neverfactored.programtext import read_program
from neverfactored.ways import depth_of, names_known, partner_lines
from tests.support import Case


def lines_of(*texts):
    """Return the lines of a program of these lines."""
    return read_program("\n".join(texts)).lines


def known(*texts):
    """Return the names known at the lines of a program."""
    return names_known(lines_of(*texts))


class PartnerTest(Case):

    def test_no_blocks(self):
        self.assertEqual(partner_lines(()), ())
        self.assertEqual(partner_lines(lines_of("let aa = 1", "stop b")), (None, None))

    def test_blocks(self):
        self.assertEqual(partner_lines(lines_of("if x = 1", "end")), ((None, 1), None))
        self.assertEqual(partner_lines(lines_of("if x = 1", "else", "end")), ((1, 2), None, None))
        self.assertEqual(partner_lines(lines_of("for 2 times", "end")), ((None, 1), None))
        self.assertEqual(partner_lines(lines_of("for 0 times", "let aa = 1", "end", "stop m")),
                         ((None, 2), None, None, None))

    def test_nested_blocks(self):
        lines = lines_of("if x = 1", "for 2 times", "if y = 1", "else", "if z = 1", "end", "end", "end", "else",
                         "if x = 2", "else", "end", "end", "for 1 times", "end")
        self.assertEqual(partner_lines(lines), ((8, 12), (None, 7), (3, 6), None, (None, 5), None, None, None, None,
                                                (10, 11), None, None, None, (None, 14), None))

    def test_lists_may_be_passed(self):
        self.assertEqual(partner_lines([("for", 2), ("end",)]), ((None, 1), None))
        self.assertEqual(names_known([("for", 2), ("end",)]), ((), ()))
        self.assertEqual(depth_of([("for", 2), ("end",)]), 1)


class DepthTest(Case):

    def test_depth(self):
        for texts, depth in (((), 0), (("let aa = 1", "stop m"), 0), (("if x = 1", "end"), 1),
                             (("if x = 1", "end", "for 1 times", "end"), 1),
                             (("if x = 1", "else", "for 0 times", "end", "end"), 2),
                             (("for 1 times", "if x = 1", "end", "if x = 1", "if x = 2", "end", "end", "end"), 3)):
            self.same(depth_of(lines_of(*texts)), depth)

    def test_as_deep_as_can_be(self):
        self.same(depth_of(lines_of(*["for 1 times"] * 30, *["end"] * 30)), 30)


class KnownTest(Case):

    def test_straight_on(self):
        self.assertEqual(known(), ())
        self.assertEqual(known("let cc = 1", "let aa = 2", "let bb = cc", "let aa = bb", "stop m aa"),
                         ((), ("cc",), ("aa", "cc"), ("aa", "bb", "cc"), ("aa", "bb", "cc")))

    def test_behind_a_stop_line(self):
        self.assertEqual(known("stop m", "let aa = bb", "if cc = 1", "else", "end", "for 2 times", "end", "stop m"),
                         ((), None, None, None, None, None, None, None))

    def test_both_sides_of_an_if(self):
        self.assertEqual(known("if x = 1", "let aa = 1", "let bb = 1", "else", "let bb = 2", "let cc = 2", "end",
                               "stop m"),
                         ((), (), ("aa",), ("aa", "bb"), (), ("bb",), ("bb",), ("bb",)))

    def test_without_an_else_line(self):
        self.assertEqual(known("let dd = 1", "if x = 1", "let aa = 1", "end", "stop m"),
                         ((), ("dd",), ("dd",), ("dd",), ("dd",)))

    def test_a_side_that_is_never_left(self):
        self.assertEqual(known("if x = 1", "let aa = 1", "else", "stop m", "end", "stop n aa"),
                         ((), (), ("aa",), (), ("aa",), ("aa",)))
        self.assertEqual(known("if x = 1", "stop m", "else", "let aa = 1", "end", "stop n aa"),
                         ((), (), None, (), ("aa",), ("aa",)))
        self.assertEqual(known("let bb = 1", "if x = 1", "stop m", "end", "stop n bb"),
                         ((), ("bb",), ("bb",), ("bb",), ("bb",)))

    def test_both_sides_never_left(self):
        self.assertEqual(known("if x = 1", "stop m", "else", "stop n", "end", "stop p aa"),
                         ((), (), None, (), None, None))

    def test_times_blocks(self):
        self.assertEqual(known("for 3 times", "let aa = 1", "end", "stop m aa"), ((), (), ("aa",), ("aa",)))
        self.assertEqual(known("let bb = 1", "for 0 times", "let aa = cc", "end", "stop m bb"),
                         ((), ("bb",), None, ("bb",), ("bb",)))
        self.assertEqual(known("for 2 times", "stop m", "end", "stop n aa"), ((), (), None, None))
        self.assertEqual(known("for 0 times", "stop m", "end", "stop n"), ((), None, (), ()))

    def test_the_first_time_counts(self):
        # The second time aa would be known at the if line.
        self.assertEqual(known("for 2 times", "if x = 1", "let aa = 1", "end", "let aa = 2", "end"),
                         ((), (), (), (), (), ("aa",)))

    def test_blocks_within_blocks(self):
        self.assertEqual(known("if x = 1", "for 2 times", "if y = 1", "stop m", "else", "let aa = 1", "end", "end",
                               "else", "for 0 times", "stop m", "end", "let aa = 2", "let bb = 2", "end", "stop m"),
                         ((), (), (), (), None, (), ("aa",), ("aa",),
                          ("aa",), (), None, (), (), ("aa",), ("aa",), ("aa",)))

    def test_a_block_that_no_way_comes_to(self):
        self.assertEqual(known("for 0 times", "if x = 1", "let aa = 1", "else", "let aa = zz", "end", "for 2 times",
                               "end", "end", "stop m"),
                         ((), None, None, None, None, None, None, None, (), ()))


if __name__ == "__main__":
    unittest.main()
