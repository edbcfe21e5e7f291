"""[3.9]: what it says of the class Notes itself."""

import unittest

from neverfactored.errors import ZeroNote
from neverfactored.notes import Notes
from neverfactored.polys import poly_over, poly_plain, poly_times
from tests.support import Case, dice_of, p, some_poly


def noted(*polys):
    """Return notes that took these polys."""
    notes = Notes()
    for poly in polys:
        notes.take(poly)
    return notes


class TakeTest(Case):

    def test_nothing_is_kept_at_first(self):
        self.same(Notes().polys, ())

    def test_none_is_returned(self):
        notes = Notes()
        for text in ("t", "t", "1", "2*t**2 - 2"):
            self.assertIsNone(notes.take(p(text)))

    def test_nought_is_refused(self):
        notes = noted(p("t"))
        self.refused(ZeroNote, {}, notes.take, ())
        self.same(notes.polys, (p("t"),))

    def test_made_monic_and_plain(self):
        self.same(noted(p("2*t - 1")).polys, (p("t - 1/2"),))
        self.same(noted(p("-3*t**2")).polys, (p("t"),))
        self.same(noted(p("5*t**4 - 20*t**2 + 20")).polys, (p("t**2 - 2"),))

    def test_kept_once_in_order(self):
        notes = noted(p("t - 1"), p("t"), p("2*t"), p("t**2"), p("t**2 - t"), p("3 - 3*t"))
        self.same(notes.polys, (p("t - 1"), p("t"), p("t**2 - t")))
        self.assertIs(notes.polys.__class__, tuple)

    def test_degree_0_is_not_kept(self):
        self.same(noted(p("1"), p("-7/2")).polys, ())

    def test_earlier_tuples_do_not_change(self):
        notes = noted(p("t"))
        polys = notes.polys
        notes.take(p("t - 1"))
        self.same(polys, (p("t"),))
        self.same(notes.polys, (p("t"), p("t - 1")))

    def test_notes_are_apart(self):
        notes = noted(p("t"))
        self.same(Notes().polys, ())
        self.same(notes.polys, (p("t"),))

    def test_by_name(self):
        notes = Notes()
        notes.take(poly=p("t"))
        self.same(notes.polys, (p("t"),))


class JoinedTest(Case):

    def test_of_none(self):
        self.same(Notes().joined, p("1"))
        self.same(noted(p("3")).joined, p("1"))

    def test_of_one(self):
        self.same(noted(p("2*t**2 - 4")).joined, p("t**2 - 2"))

    def test_of_several_without_common_roots(self):
        self.same(noted(p("t - 1"), p("t + 2"), p("t**2 - 2")).joined, poly_times(p("t**2 + t - 2"), p("t**2 - 2")))

    def test_of_several_with_common_roots(self):
        self.same(noted(p("t**2 - 1"), p("t**2 - t")).joined, p("t**3 - t"))
        self.same(noted(p("t**2 - 1"), p("t - 1"), p("t + 1")).joined, p("t**2 - 1"))
        self.same(noted(p("t - 1"), p("t**2 - 1")).joined, p("t**2 - 1"))
        self.same(noted(p("t**3 - 2*t"), p("t**2 - 2"), p("2*t**2 - 2*t")).joined, p("t**4 - t**3 - 2*t**2 + 2*t"))

    def test_of_some(self):
        dice = dice_of(149)
        for _ in range(40):
            polys = [poly for poly in (some_poly(dice, 3) for _ in range(3)) if poly]
            notes = noted(*polys)
            product = p("1")
            for poly in polys:
                product = poly_times(product, poly)
            self.same(notes.joined, poly_plain(product))
            for poly in notes.polys:
                self.assertEqual(poly_over(notes.joined, poly)[1], ())


if __name__ == "__main__":
    unittest.main()
