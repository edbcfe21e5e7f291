"""[3.4], [3.5], [3.7]: judging of parts and zero parts, carried and meeting towers."""

import unittest

from neverfactored.divisors import zero_parts
from neverfactored.errors import OtherLetters
from neverfactored.notes import Notes
from neverfactored.parting import carry_tower, meet_towers, parts_fault, zero_fault
from neverfactored.towers import tower_set_t
from tests.support import (
    Case, dice_of, e, good_samples, is_noted, noted, p, points_in, points_of, split_tower, tower, with_root)

EMPTY = tower()
TWO = tower("x: x**2 - 2")
SIX = tower("x: x**3 - x", "y: y**2 - 2")
SQUARE = tower("x: x**2 - x", "y: y**2 - y")
SHAPES = ((2,), (3,), (2, 2), (1, 3), (3, 2), (2, 2, 2), (2, 1, 2))


class PartsFaultTest(Case):

    def test_right_parts(self):
        for one, parts in ((EMPTY, [EMPTY]), (TWO, (TWO,)), (SIX, [tower("x: x", "y: y**2 - 2"),
                                                                 tower("x: x**2 - 1", "y: y**2 - 2")]),
                           (SIX, (tower("x: x**2 + x", "y: y**2 - 2"), tower("x: x - 1", "y: y**2 - 2"))),
                           (SQUARE, [tower("x: x", "y: y"), tower("x: x - 1", "y: y**2 - y"),
                                     tower("x: x", "y: y - 1")]),
                           (SQUARE, [tower("x: x**2 - x", "y: y - x"), tower("x: x**2 - x", "y: y + x - 1")]),
                           (tower("x: x**2 - t**2"), [tower("x: x - t"), tower("x: x + t")])):
            self.assertIsNone(parts_fault(one, parts))

    def test_letters(self):
        for parts in ([EMPTY], [tower("y: y**2 - 2")], [TWO, tower("x: x**2 - 2", "y: y")], [TWO, tower("z: z")]):
            self.assertEqual(parts_fault(TWO, parts), "letters")
        self.assertEqual(parts_fault(SQUARE, [tower("y: y**2 - y", "x: x**2 - x")]), "letters")
        self.assertEqual(parts_fault(EMPTY, [TWO]), "letters")

    def test_plain(self):
        for parts in ([tower("x: x**2")], [TWO, tower("x: x**2 - 2*x + 1")], (tower("x: x**4 - 4*x**2 + 4"),)):
            self.assertEqual(parts_fault(TWO, parts), "plain")
        self.assertEqual(parts_fault(SQUARE, [tower("x: x**2 - x", "y: y**2 - x")]), "plain")

    def test_beyond(self):
        for parts in ([tower("x: x")], [TWO, tower("x: x**2 - 3")], [tower("x: x**3 - 2*x")], [tower("x: x - t")]):
            self.assertEqual(parts_fault(TWO, parts), "beyond")
        self.assertEqual(parts_fault(SQUARE, [SQUARE, tower("x: x", "y: y - 2")]), "beyond")
        self.assertEqual(parts_fault(SQUARE, [tower("x: x**2 - x", "y: y + 2*x")]), "beyond")

    def test_twice(self):
        for parts in ([TWO, TWO], (TWO, tower("x: x**2 - 2"))):
            self.assertEqual(parts_fault(TWO, parts), "twice")
        self.assertEqual(parts_fault(EMPTY, [EMPTY, EMPTY]), "twice")
        # Together these have as many points as the square.
        self.assertEqual(parts_fault(SQUARE, [tower("x: x", "y: y**2 - y"), tower("x: x**2 - x", "y: y")]), "twice")
        self.assertEqual(parts_fault(SQUARE, [tower("x: x", "y: y**2 - y"), tower("x: x", "y: y")]), "twice")
        one = tower("x: x**2 - 2", "y: y**2 - 2")
        self.assertEqual(parts_fault(one, [tower("x: x**2 - 2", "y: y - x"), one]), "twice")

    def test_lacking(self):
        self.assertEqual(parts_fault(TWO, []), "lacking")
        self.assertEqual(parts_fault(EMPTY, ()), "lacking")
        self.assertEqual(parts_fault(SQUARE, [tower("x: x", "y: y**2 - y"), tower("x: x - 1", "y: y")]), "lacking")
        self.assertEqual(parts_fault(tower("x: x**2 - 2", "y: y**2 - 2"), [tower("x: x**2 - 2", "y: y - x")]),
                         "lacking")

    def test_several_at_once(self):
        other, bent = tower("y: y"), tower("x: x**2")
        far, whole = tower("x: x - 7"), TWO
        for parts, told in (([bent, other], "letters"), ([far, far, bent], "plain"), ([whole, whole, far], "beyond"),
                            ([far, far], "beyond"), ([bent, far, whole, whole, other], "letters"),
                            ([tower("x: x"), tower("x: x")], "beyond"), ([far], "beyond")):
            self.assertEqual(parts_fault(TWO, parts), told)
        half = tower("x: x", "y: y**2 - y")
        self.assertEqual(parts_fault(SQUARE, [half, half]), "twice")

    def test_by_dice(self):
        dice = dice_of(257)
        for turn in range(30):
            one, roots = split_tower(dice, SHAPES[turn % len(SHAPES)])
            zeros, others = zero_parts(one, with_root(dice, one.letters, roots))
            parts = list(zeros + others)
            self.assertIsNone(parts_fault(one, parts))
            self.assertIsNone(parts_fault(one, tuple(parts[::-1])))
            self.assertEqual(parts_fault(one, parts + [dice.choice(parts)]), "twice")
            if len(parts) > 1:
                self.assertEqual(parts_fault(one, parts[1:]), "lacking")


class ZeroFaultTest(Case):

    def test_right(self):
        element = e("x*y")
        zeros, others = zero_parts(SQUARE, element)
        self.assertIsNone(zero_fault(SQUARE, element, zeros, others))
        self.assertIsNone(zero_fault(SQUARE, element, [tower("x: x", "y: y"), tower("x: x", "y: y - 1"),
                                                       tower("x: x - 1", "y: y")], [tower("x: x - 1", "y: y - 1")]))
        self.assertIsNone(zero_fault(TWO, e("x**2 - 2", "x"), [TWO], []))
        self.assertIsNone(zero_fault(TWO, e("x**3", "x"), (), (TWO,)))

    def test_words_of_parts_fault_come_first(self):
        zero, other = tower("x: x"), tower("x: x - 1")
        one = tower("x: x**2 - x")
        element = e("x", "x")
        self.assertEqual(zero_fault(one, element, [zero], [tower("y: y")]), "letters")
        self.assertEqual(zero_fault(one, element, [other], [tower("x: x**2")]), "plain")
        self.assertEqual(zero_fault(one, element, [other, zero], [tower("x: x - 2")]), "beyond")
        self.assertEqual(zero_fault(one, element, [zero, other], [other]), "twice")
        self.assertEqual(zero_fault(one, element, [zero], []), "lacking")
        self.assertEqual(zero_fault(one, element, [], []), "lacking")

    def test_zero_ahead_of_other(self):
        zero, other = tower("x: x"), tower("x: x - 1")
        one = tower("x: x**2 - x")
        self.assertEqual(zero_fault(one, e("x", "x"), [one], []), "zero")
        self.assertEqual(zero_fault(one, e("x", "x"), [other], [zero]), "zero")
        self.assertEqual(zero_fault(one, e("x", "x"), [], [one]), "other")
        self.assertEqual(zero_fault(one, e("x**2 - x", "x"), [other], [zero]), "other")
        self.assertEqual(zero_fault(TWO, e("x**2 - 2", "x"), (), (TWO,)), "other")
        self.assertEqual(zero_fault(TWO, e("x + 1", "x"), (TWO,), ()), "zero")
        self.assertIsNone(zero_fault(one, e("x", "x"), [zero], [other]))

    def test_at_some_point_of_a_part(self):
        element = e("x*y")
        left, right = tower("x: x", "y: y**2 - y"), tower("x: x - 1", "y: y**2 - y")
        self.assertEqual(zero_fault(SQUARE, element, [left], [right]), "other")
        same, unlike = tower("x: x**2 - x", "y: y - x"), tower("x: x**2 - x", "y: y + x - 1")
        self.assertEqual(zero_fault(SQUARE, element, [same], [unlike]), "zero")

    def test_with_t(self):
        one = tower("x: x**2 - t**2")
        zeros, others = [tower("x: x - t")], [tower("x: x + t")]
        self.assertIsNone(zero_fault(one, e("x - t", "x"), zeros, others))
        self.assertEqual(zero_fault(one, e("x + t", "x"), zeros, others), "zero")
        self.assertEqual(zero_fault(one, e("x - t", "x"), [], zeros + others), "other")


class CarryTest(Case):

    def test_each_number_of_letters(self):
        one = tower("x: x**2 - x", "y: y**2 - x*y + x - 1", "z: z**3 - x*y*z + x + y")
        self.assertEqual(carry_tower(one, EMPTY), one)
        self.assertEqual(carry_tower(one, tower("x: x")), tower("x: x", "y: y**2 - 1", "z: z**3 + y"))
        self.assertEqual(carry_tower(one, tower("x: x - 1")), tower("x: x - 1", "y: y**2 - y", "z: z**3 - y*z + y + 1"))
        self.assertEqual(carry_tower(one, tower("x: x", "y: y - 1")), tower("x: x", "y: y - 1", "z: z**3 + 1"))
        for part in (one, tower("x: x", "y: y - 1", "z: z + 1")):
            self.assertEqual(carry_tower(one, part), part)
        self.assertEqual(carry_tower(EMPTY, EMPTY), EMPTY)

    def test_by_dice(self):
        dice = dice_of(263)
        for turn in range(30):
            one, roots = split_tower(dice, SHAPES[turn % len(SHAPES)])
            many = dice.randint(1, len(one.letters))
            zeros, others = zero_parts(one.over(many), with_root(dice, one.letters[:many], roots[:many]))
            points = points_of(roots)
            self.are_parts(points, [carry_tower(one, part) for part in zeros + others])
            for part in zeros + others:
                for point in self.whole_points(carry_tower(one, part), points):
                    self.assertEqual(points_in(part, [point[:many]]), [point[:many]])

    def test_other_letters(self):
        for part in (tower("y: y"), tower("y: y", "x: x"), tower("x: x", "z: z"), tower("x: x", "y: y", "z: z")):
            self.refused(OtherLetters, {}, carry_tower, SQUARE, part)
        self.refused(OtherLetters, {}, carry_tower, EMPTY, tower("x: x"))

    def test_with_t(self):
        one = tower("x: x**2 - t**2", "y: y**2 - x")
        self.assertEqual(carry_tower(one, tower("x: x + t")), tower("x: x + t", "y: y**2 + t"))


class MeetTest(Case):

    def test_at_the_points(self):
        dice = dice_of(269)
        kinds = {"all": 0, "none": 0, "some": 0}
        for turn in range(60):
            shape = SHAPES[turn % len(SHAPES)]
            one, roots = split_tower(dice, shape)
            points = points_of(roots)
            if turn % 2 == 0:
                other, others = split_tower(dice, shape)
            else:
                kinds_of_parts = zero_parts(one, with_root(dice, one.letters, roots))
                other = dice.choice([part for row in kinds_of_parts for part in row])
                one, other = dice.choice(((one, other), (other, one)))
            common, rest = meet_towers(one, other)
            points = points_in(one, points)
            self.assertEqual((common.__class__, rest.__class__), (tuple, tuple))
            self.are_parts(points, common + rest)
            shared = [point for part in common for point in points_in(part, points)]
            self.assertEqual(sorted(shared), sorted(points_in(other, points)))
            kind = "none" if not shared else "all" if len(shared) == len(points) else "some"
            kinds[kind] += 1
            if kind == "none":
                self.assertEqual((common, rest), ((), (one,)))
            if kind == "all":
                self.assertEqual((common, rest), ((one,), ()))
        self.assertGreater(min(kinds.values()), 5)

    def test_followed_by_hand(self):
        self.assertEqual(meet_towers(EMPTY, EMPTY), ((EMPTY,), ()))
        self.assertEqual(meet_towers(TWO, tower("x: x**2 - 2")), ((TWO,), ()))
        self.assertEqual(meet_towers(TWO, tower("x: x**4 - 5*x**2 + 6")), ((TWO,), ()))
        self.assertEqual(meet_towers(tower("x: x**4 - 5*x**2 + 6"), TWO), ((TWO,), (tower("x: x**2 - 3"),)))
        self.assertEqual(meet_towers(TWO, tower("x: x**2 - 3")), ((), (TWO,)))
        one = tower("x: x**2 - 2", "y: y**2 - 2")
        self.assertEqual(meet_towers(one, tower("x: x**2 - 2", "y: y - x")),
                         ((tower("x: x**2 - 2", "y: y - x"),), (tower("x: x**2 - 2", "y: y + x"),)))

    def test_none_in_common_though_each_letter_has_some(self):
        one, other = tower("x: x**2 - x", "y: y - x"), tower("x: x**2 - x", "y: y + x - 1")
        self.assertEqual(meet_towers(one, other), ((), (one,)))
        one, other = tower("x: x**2 - x", "y: y"), tower("x: x**2 + x", "y: y + x - 1")
        self.assertEqual(meet_towers(one, other), ((), (one,)))

    def test_other_letters(self):
        for other in (EMPTY, tower("y: y**2 - 2"), SQUARE):
            self.refused(OtherLetters, {}, meet_towers, TWO, other)
        self.refused(OtherLetters, {}, meet_towers, SQUARE, tower("y: y**2 - y", "x: x**2 - x"))

    def test_with_t(self):
        dice = dice_of(271)
        looked = 0
        for turn in range(20):
            shape = ((2,), (1, 2), (2, 1), (3,))[turn % 4]
            one, roots = split_tower(dice, shape, with_t=True)
            other, others = split_tower(dice, shape, with_t=True)
            if turn % 2 == 0:
                other, others = one.over(len(shape)), roots
                kinds_of_parts = zero_parts(one, with_root(dice, one.letters, roots))
                one = dice.choice([part for row in kinds_of_parts for part in row])
            (common, rest), notes = noted(meet_towers, one, other)
            for number in good_samples(notes, roots, others):
                whole = points_in(tower_set_t(one, number), points_of(roots, number))
                far = points_of(others, number)
                self.are_parts(whole, [tower_set_t(part, number) for part in common + rest])
                for part in common:
                    self.assertTrue(all(point in far for point in points_in(tower_set_t(part, number), whole)))
                for part in rest:
                    self.assertFalse(any(point in far for point in points_in(tower_set_t(part, number), whole)))
                looked += 1
        self.assertGreater(looked, 100)

    def test_what_is_taken(self):
        one, other = tower("x: x - t"), tower("x: x**2 - 1")
        result, notes = noted(meet_towers, one, other)
        self.assertEqual(result, ((), (one,)))
        self.same(notes.joined, p("t**2 - 1"))
        one, other = tower("x: x - 1", "y: y - (1)/(t)"), tower("x: x - 2", "y: y - (1)/(t - 9)")
        result, notes = noted(meet_towers, one, other)
        self.assertEqual(result, ((), (one,)))
        self.assertTrue(is_noted(notes, p("t")) and is_noted(notes, p("t - 9")))
        self.same(noted(meet_towers, SIX, tower("x: x", "y: y**2 - 2"))[1].polys, ())

    def test_notes_of_several_calls(self):
        notes = Notes()
        meet_towers(tower("x: x - t"), tower("x: x - 1"), notes)
        zero_parts(tower("x: x**2 - t"), e("x - 2", "x"), notes)
        self.same(notes.polys, (p("t - 1"), p("t - 4")))


if __name__ == "__main__":
    unittest.main()
