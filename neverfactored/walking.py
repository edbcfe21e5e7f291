"""Running a program line by line, over whatever its values are: numbers at one point, or elements at many.

A ground is an object that reckons with the values. Where it divides by 0 it raises DividedByNought; where its points
must be parted first it raises Parted, and the line is begun anew over each part.
"""

from neverfactored.errors import DividedByNought, LackingLetter
from neverfactored.ways import partner_lines


class Course:
    """The lines of a program, and where each block begins and ends."""

    def __init__(self, lines):
        self.lines = lines
        self.partners = partner_lines(lines)
        self.first_lines = {}
        self.end_lines = {}
        for number, partner in enumerate(self.partners):
            if partner is not None:
                middle, end = partner
                self.first_lines[end] = number
                if middle is not None:
                    self.end_lines[middle] = end


class Walk:
    """Where a run stands ahead of a line, and what it has seen.

    Rounds tells for each for block around the line how many runs of it are left, this one counted.
    """

    def __init__(self, line=0, rounds=(), known=(), answers=(), walked=()):
        self.line = line
        self.rounds = tuple(rounds)
        self.known = dict(known)
        self.answers = tuple(answers)
        self.walked = tuple(walked)

    def carried(self, change):
        """Return a walk that stands at the same place, each of its values changed by a function."""
        known = {name: change(value) for name, value in self.known.items()}
        return Walk(self.line, self.rounds, known, self.answers, self.walked)

    def leave(self, rows):
        """Keep the line at which the walk stands as walked, and the answers given there."""
        self.answers = self.answers + tuple(rows)
        self.walked = self.walked + (self.line,)


def refuse_letters(program, letters):
    """Refuse the first letter that a program reads and that is not told."""
    for letter in program.letters:
        if letter not in letters:
            raise LackingLetter(letter)


def walk_on(walk, course, ground):
    """Run from where the walk stands to the end, and return the mark and the tuple of values there."""
    while walk.line < len(course.lines):
        line = course.lines[walk.line]
        rows = []
        try:
            worth = line_worth(line, walk, ground, rows)
        except DividedByNought:
            walk.leave(rows)
            return "broken", ()
        walk.leave(rows)
        if line[0] == "stop":
            return line[1], worth
        if line[0] == "let":
            walk.known[line[1]] = worth
        step(walk, course, worth)
    return "end", ()


def line_worth(line, walk, ground, rows):
    """Return the value of a let line, the answer of an if line or the values of a stop line; rows get the answers."""
    if line[0] == "let":
        return reckoned(line[2], walk.known, ground)
    if line[0] == "if":
        return line_answer(line, walk, ground, rows)
    if line[0] == "stop":
        return tuple([reckoned(value, walk.known, ground) for value in line[2]])
    return None


def line_answer(line, walk, ground, rows):
    """Ask the tests of an if line from the left, those that are not passed over, and return the last answer."""
    _, tests, joins = line
    yes = True
    for place, test in enumerate(tests):
        if place == 0 or yes == (joins[place - 1] == "and"):
            yes = test_answer(test, walk.known, ground)
            rows.append((walk.line, place, yes))
    return yes


def test_answer(test, known, ground):
    """Return whether a test holds."""
    sign, left, right = test
    one = reckoned(left, known, ground)
    other = reckoned(right, known, ground)
    return ground.is_nought(ground.minus(one, other)) == (sign == "=")


def reckoned(expression, known, ground):
    """Return the value of an expression with the names known."""
    word = expression[0]
    if word == "number":
        return ground.number_value(expression[1])
    if word == "letter":
        return ground.letter_value(expression[1])
    if word == "name":
        return known[expression[1]]
    one = reckoned(expression[1], known, ground)
    if word == "negative":
        return ground.negative(one)
    if word == "power":
        return ground.power(one, expression[2])
    return joined_values(word, one, reckoned(expression[2], known, ground), ground)


def joined_values(word, one, other, ground):
    """Return the sum, difference, product or quotient of two values."""
    if word == "plus":
        return ground.plus(one, other)
    if word == "minus":
        return ground.minus(one, other)
    if word == "times":
        return ground.times(one, other)
    return ground.divide(one, other)


def step(walk, course, worth):
    """Go from a line to the next one that is walked; worth is the answer of an if line."""
    word = course.lines[walk.line][0]
    if word == "for":
        enter_rounds(walk, course)
    elif word == "if" and not worth:
        middle, end = course.partners[walk.line]
        walk.line = end if middle is None else middle + 1
    else:
        walk.line += 1
    while walk.line < len(course.lines) and course.lines[walk.line][0] in ("else", "end"):
        pass_block_line(walk, course)


def enter_rounds(walk, course):
    """Go from a for line into its block, or behind it if the block is run through no time."""
    times = course.lines[walk.line][1]
    if times == 0:
        walk.line = course.partners[walk.line][1] + 1
    else:
        walk.rounds = walk.rounds + (times,)
        walk.line += 1


def pass_block_line(walk, course):
    """Go on from an else line, to which only the yes side comes, or from an end line."""
    if course.lines[walk.line][0] == "else":
        walk.line = course.end_lines[walk.line]
    first = course.first_lines[walk.line]
    if course.lines[first][0] == "if":
        walk.line += 1
    elif walk.rounds[-1] == 1:
        walk.rounds = walk.rounds[:-1]
        walk.line += 1
    else:
        walk.rounds = walk.rounds[:-1] + (walk.rounds[-1] - 1,)
        walk.line = first + 1
