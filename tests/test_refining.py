"""[6.1] to [6.3]: sets of points taken apart, taken away, refined and counted over their beginnings."""

import unittest

from neverfactored.divisors import zero_parts
from neverfactored.errors import OtherLetters
from neverfactored.notes import Notes
from neverfactored.plaintowers import is_plain
from neverfactored.refining import apart_towers, counted_beginnings, less_towers, refine_towers
from neverfactored.towers import Tower, tower_set_t
from tests.support import (
    SAMPLES, Case, are_unlike, dice_of, is_noted, p, points_in, points_of, split_tower, tower, with_root)

EMPTY = tower()
TWO = tower("x: x**2 - 2")
SHAPES = (((1,), (2,), (3,), (4,)), ((1, 2), (2, 1), (2, 2), (3, 1)), ((1, 1, 2), (2, 1, 2), (1, 2, 2), (2, 2, 1)))


def some_towers(dice, shapes, many, with_t=False):
    """Return towers by dice in the same letters with the roots of each, some of them equal and some parts of others."""
    found = [split_tower(dice, dice.choice(shapes), with_t) for _ in range(many)]
    if found and dice.random() < 0.4:
        found.append(found[0])
    return found


def apart_by_dice(dice, shapes, many):
    """Return couples (tower, its points) without common points."""
    found = []
    for one, roots in some_towers(dice, shapes, many):
        points = set(points_of(roots))
        for kind in zero_parts(one, with_root(dice, one.letters, roots)):
            for part in kind:
                own = set(points_in(part, points))
                if not any(own & taken for _, taken in found):
                    found.append((part, own))
    return found


def union(rows):
    """Return the points of all rows."""
    return set().union(*rows)


class RefiningCase(Case):

    def shares(self, towers, points):
        """Check that plain towers without a common point have together just the points; return those of each."""
        self.are_parts(sorted(points), towers)
        return [set(points_in(part, points)) for part in towers]


class ApartTest(RefiningCase):

    def test_at_the_points(self):
        dice = dice_of(389)
        for turn in range(60):
            told = some_towers(dice, SHAPES[turn % 3], dice.randint(0, 4))
            points = union(points_of(roots) for _, roots in told)
            found = apart_towers([one for one, _ in told])
            self.assertIs(found.__class__, tuple)
            self.shares(found, points)

    def test_followed_by_hand(self):
        self.assertEqual(apart_towers([]), ())
        self.assertEqual(apart_towers(()), ())
        self.assertEqual(apart_towers([EMPTY, EMPTY, EMPTY]), (EMPTY,))
        self.assertEqual(apart_towers([TWO, tower("x: x**2 - 2")]), (TWO,))
        found = apart_towers((TWO, tower("x: x**4 - 5*x**2 + 6")))
        self.assertEqual(sorted(part.equations for part in found),
                         sorted([TWO.equations, tower("x: x**2 - 3").equations]))
        found = apart_towers([tower("x: x**2 - 2", "y: y - x"), tower("x: x**2 - 2", "y: y**2 - 2")])
        self.assertEqual(sum(part.count for part in found), 4)

    def test_what_is_passed_is_not_changed(self):
        towers = [TWO, TWO]
        apart_towers(towers)
        self.assertEqual(towers, [TWO, TWO])


class LessTest(RefiningCase):

    def test_at_the_points(self):
        dice = dice_of(397)
        for turn in range(60):
            shapes = SHAPES[turn % 3]
            told = apart_by_dice(dice, shapes, dice.randint(0, 3))
            others = apart_by_dice(dice, shapes, dice.randint(0, 3))
            for one, own in told if turn % 2 == 0 else ():
                if dice.random() < 0.5 and not any(own & taken for _, taken in others):
                    others.append((one, own))
            found = less_towers([one for one, _ in told], tuple(one for one, _ in others))
            self.assertIs(found.__class__, tuple)
            self.shares(found, union(own for _, own in told) - union(own for _, own in others))

    def test_empty_sequences(self):
        self.assertEqual(less_towers([], []), ())
        self.assertEqual(less_towers((), (TWO,)), ())
        self.assertEqual(less_towers([TWO], ()), (TWO,))
        self.assertEqual(less_towers([EMPTY], []), (EMPTY,))
        self.assertEqual(less_towers([EMPTY], [EMPTY]), ())

    def test_points_that_are_no_ratios(self):
        one = tower("x: x**2 - 2", "y: y**2 - 2")
        self.assertEqual(less_towers([one], [tower("x: x**2 - 2", "y: y - x")]), (tower("x: x**2 - 2", "y: y + x"),))
        self.assertEqual(less_towers([one], [tower("x: x**2 - 3", "y: y - x")]), (one,))
        self.assertEqual(less_towers([one], [one]), ())


class RefineTest(RefiningCase):

    def right(self, told, found):
        """Check what is said of refined towers."""
        self.assertIs(found.__class__, tuple)
        points = union(own for _, own in told)
        rows = self.shares(found, points)
        for own in rows:
            self.assertTrue(any(own <= whole for _, whole in told))
        many = len(found[0].letters) if found else 0
        for place in range(many + 1):
            for one, own in zip(found, rows):
                for other, more in zip(found, rows):
                    met = {point[:place] for point in own} & {point[:place] for point in more}
                    self.assertTrue(not met or one.over(place) == other.over(place))

    def test_at_the_points(self):
        dice = dice_of(401)
        finer = 0
        for turn in range(60):
            told = apart_by_dice(dice, SHAPES[turn % 3], dice.randint(0, 4))
            found = refine_towers([one for one, _ in told])
            self.right(told, found)
            finer += len(found) > len(told)
        self.assertGreater(finer, 8)

    def test_followed_by_hand(self):
        self.assertEqual(refine_towers([]), ())
        self.assertEqual(refine_towers([EMPTY]), (EMPTY,))
        self.assertEqual(refine_towers((TWO,)), (TWO,))
        one, other = tower("x: x**2 - x", "y: y"), tower("x: x", "y: y - 1")
        found = refine_towers([one, other])
        self.assertEqual(sorted(part.equations for part in found),
                         sorted(part.equations for part in (tower("x: x", "y: y"), tower("x: x - 1", "y: y"), other)))
        one, other = tower("x: x**2 - 2", "y: y"), tower("x: x**2 - 2", "y: y**2 - x")
        self.assertEqual(refine_towers([one, other]), (one, other))

    def test_what_parts_a_letter_ahead(self):
        # Over y the first two are parted over x, and then the third must be parted there, too.
        told = [tower("x: x**2 - x", "y: y - x", "z: z"), tower("x: x**2 - x", "y: y**2 - y", "z: z - 1"),
                tower("x: x**2 - x", "y: y - 5", "z: z")]
        points = [{((0, 1), (0, 1), (0, 1)), ((1, 1), (1, 1), (0, 1))},
                  {((x, 1), (y, 1), (1, 1)) for x in (0, 1) for y in (0, 1)},
                  {((x, 1), (5, 1), (0, 1)) for x in (0, 1)}]
        self.right(list(zip(told, points)), refine_towers(told))
        self.right(list(zip(told, points)), refine_towers(told[::-1]))


class CountedTest(RefiningCase):

    def right(self, told, found):
        """Check beginnings and numbers at the points."""
        self.assertIs(found.__class__, tuple)
        points = union(own for _, own in told)
        counts = {}
        for point in points:
            counts[point[:-1]] = counts.get(point[:-1], 0) + 1
        self.shares([part for part, _ in found], set(counts))
        for part, number in found:
            self.same(number, number)
            for point in points_in(part, set(counts)):
                self.assertEqual(counts[point], number)

    def test_at_the_points(self):
        dice = dice_of(409)
        for turn in range(60):
            told = apart_by_dice(dice, SHAPES[1 + turn % 2], dice.randint(1, 4))
            self.right(told, counted_beginnings([one for one, _ in told]))

    def test_of_one_letter(self):
        self.assertEqual(counted_beginnings([TWO]), ((EMPTY, 2),))
        self.assertEqual(counted_beginnings((TWO, tower("x: x"), tower("x: x**3 - 3"))), ((EMPTY, 6),))
        dice = dice_of(419)
        for _ in range(10):
            told = apart_by_dice(dice, SHAPES[0], 3)
            self.assertEqual(counted_beginnings([one for one, _ in told]),
                             ((EMPTY, len(union(own for _, own in told))),))

    def test_of_none(self):
        self.assertEqual(counted_beginnings([]), ())
        self.assertEqual(counted_beginnings(()), ())

    def test_followed_by_hand(self):
        one, other = tower("x: x**2 - 2", "y: y**3 - x"), tower("x: x**2 - 2", "y: y")
        self.assertEqual(counted_beginnings([one, other]), ((TWO, 4),))
        found = counted_beginnings([tower("x: x**2 - x", "y: y"), tower("x: x", "y: y**2 - 1"),
                                    tower("x: x - 5", "y: y")])
        self.assertEqual(sorted((part.equations, number) for part, number in found),
                         sorted([(tower("x: x").equations, 3), (tower("x: x - 1").equations, 1),
                                 (tower("x: x - 5").equations, 1)]))


class LettersTest(RefiningCase):

    def test_other_letters(self):
        for towers in ([TWO, tower("y: y")], [EMPTY, TWO], [tower("x: x", "y: y"), tower("y: y", "x: x")],
                       [TWO, TWO, tower("x: x", "y: y")], (tower("t: t"), TWO)):
            for call in (apart_towers, refine_towers, counted_beginnings):
                self.refused(OtherLetters, {}, call, towers)
                self.refused(OtherLetters, {}, call, tuple(towers), Notes())
            self.refused(OtherLetters, {}, less_towers, towers, ())
            self.refused(OtherLetters, {}, less_towers, [], towers)
            self.refused(OtherLetters, {}, less_towers, towers[:1], towers[1:])
            self.refused(OtherLetters, {}, less_towers, towers[1:], towers[:1], Notes())


class NotesTest(RefiningCase):

    def good(self, notes, told):
        """Return the samples that are no root, and at which each told split tower is plain."""
        return [number for number in SAMPLES if not is_noted(notes, linear(number))
                and all(are_unlike(points_of(roots, number)) for _, roots in told)]

    def test_apart_with_t_set(self):
        dice = dice_of(421)
        looked = 0
        for turn in range(15):
            told = some_towers(dice, SHAPES[turn % 2][:3], 2, with_t=True)
            notes = Notes()
            found = apart_towers([one for one, _ in told], notes)
            for number in self.good(notes, told):
                points = union(points_of(roots, number) for _, roots in told)
                self.shares([tower_set_t(part, number) for part in found], points)
                looked += 1
        self.assertGreater(looked, 80)

    def test_the_others_with_t_set(self):
        dice = dice_of(431)
        looked = 0
        for turn in range(15):
            told = some_towers(dice, SHAPES[turn % 2][:3], 1, with_t=True)[:1]
            others = [split_tower(dice, SHAPES[turn % 2][turn % 3], with_t=True)]
            if turn % 2 == 0:
                others = told
            one, roots = told[0]
            parts = [part for kind in zero_parts(one, with_root(dice, one.letters, roots)) for part in kind]
            notes = [Notes(), Notes(), Notes()]
            less = less_towers(parts, [other for other, _ in others], notes[0])
            fine = refine_towers(parts, notes[1])
            counted = counted_beginnings(parts, notes[2])
            for number in self.good(notes[0], told + others):
                far = set(points_of(others[0][1], number))
                self.shares([tower_set_t(part, number) for part in less], set(points_of(roots, number)) - far)
                looked += 1
            for number in self.good(notes[1], told):
                self.refined_at([tower_set_t(part, number) for part in fine], set(points_of(roots, number)))
            for number in self.good(notes[2], told):
                self.counted_at(counted, number, points_of(roots, number))
        self.assertGreater(looked, 80)

    def refined_at(self, found, points):
        """Check refined towers at one value of t."""
        rows = self.shares(found, points)
        for place in range(len(found[0].letters) + 1):
            for one, own in zip(found, rows):
                for other, more in zip(found, rows):
                    met = {point[:place] for point in own} & {point[:place] for point in more}
                    self.assertTrue(not met or one.over(place) == other.over(place))

    def counted_at(self, counted, number, points):
        """Check counted beginnings at one value of t."""
        counts = {}
        for point in points:
            counts[point[:-1]] = counts.get(point[:-1], 0) + 1
        at = [(tower_set_t(part, number), many) for part, many in counted]
        self.shares([part for part, _ in at], set(counts))
        for part, many in at:
            self.assertEqual({counts[point] for point in points_in(part, set(counts))}, {many})

    def test_what_is_taken(self):
        notes = Notes()
        self.assertEqual(apart_towers([tower("x: x - t"), tower("x: x - 1")], notes),
                         (tower("x: x - t"), tower("x: x - 1")))
        self.assertTrue(is_noted(notes, p("t - 1")))
        for call in (apart_towers, refine_towers, counted_beginnings, lambda one, kept: less_towers(one, (), kept),
                     lambda one, kept: less_towers((), one, kept)):
            notes = Notes()
            call([tower("x: x - (1)/(t - 4)")], notes)
            self.assertTrue(is_noted(notes, p("t - 4")))
            notes = Notes()
            call([tower("x: x**2 - 1/2"), tower("x: x - 3")], notes)
            self.same(notes.polys, ())

    def test_towers_that_are_no_longer_plain(self):
        one = Tower(("x",), tower("x: x**2 - t").equations)
        notes = Notes()
        found = apart_towers([one, tower("x: x - 2")], notes)
        for number in [number for number in SAMPLES if not is_noted(notes, linear(number)) and number != (0, 1)]:
            self.assertTrue(all(is_plain(tower_set_t(part, number)) for part in found))


def linear(number):
    """Return the poly that is 0 where t is the number."""
    return ((-number[0], number[1]), (1, 1))


if __name__ == "__main__":
    unittest.main()
