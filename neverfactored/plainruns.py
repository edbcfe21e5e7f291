"""Plain runs: a program at one point whose numbers are ratios."""

from neverfactored.errors import BadPoint
from neverfactored.programs import is_readable
from neverfactored.ratios import (
    ZERO, is_ratio, make_ratio, ratio_minus, ratio_negative, ratio_over, ratio_plus, ratio_power, ratio_times)
from neverfactored.walking import Course, Walk, refuse_letters, walk_on


class Outcome:
    """What a program does at one point: its mark, its values, the answers of its tests and the lines walked."""

    def __init__(self, mark, outputs, answers, walked):
        self.mark = mark
        self.outputs = tuple(outputs)
        self.answers = tuple(answers)
        self.walked = tuple(walked)

    def __eq__(self, other):
        return (isinstance(other, Outcome) and self.mark == other.mark and self.outputs == other.outputs
                and self.answers == other.answers and self.walked == other.walked)


class PlainGround:
    """Reckons with ratios, the numbers of one point."""

    def __init__(self, letters, numbers):
        self.numbers = {letter: number for letter, number in zip(letters, numbers)}

    def number_value(self, number):
        """Return a number of a program."""
        return make_ratio(number)

    def letter_value(self, letter):
        """Return the number for which a letter stands."""
        return self.numbers[letter]

    def negative(self, one):
        """Return - one."""
        return ratio_negative(one)

    def plus(self, one, other):
        """Return the sum."""
        return ratio_plus(one, other)

    def minus(self, one, other):
        """Return the difference."""
        return ratio_minus(one, other)

    def times(self, one, other):
        """Return the product."""
        return ratio_times(one, other)

    def divide(self, one, other):
        """Return one / other."""
        return ratio_over(one, other)

    def power(self, one, power):
        """Return the power."""
        return ratio_power(one, power)

    def is_nought(self, one):
        """Return whether a value is 0."""
        return one == ZERO


def refuse_point(letters, numbers):
    """Refuse letters and numbers that are no point."""
    if not isinstance(letters, (list, tuple)) or not isinstance(numbers, (list, tuple)) or len(letters) != len(numbers):
        raise BadPoint(0, "many")
    for index, letter in enumerate(letters):
        if not is_readable(letter) or letter in letters[:index]:
            raise BadPoint(index, "letter")
    for index, number in enumerate(numbers):
        if not is_ratio(number):
            raise BadPoint(index, "ratio")


def run_at(program, letters, numbers):
    """Return what the program does where the letters are these ratios."""
    refuse_point(letters, numbers)
    refuse_letters(program, letters)
    walk = Walk()
    mark, outputs = walk_on(walk, Course(program.lines), PlainGround(letters, numbers))
    return Outcome(mark, outputs, walk.answers, walk.walked)


def lines_walked(program, letters, numbers):
    """Yield the numbers of the lines that the same run comes to, one by one."""
    for line in run_at(program, letters, numbers).walked:
        yield line
