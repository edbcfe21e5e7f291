"""Programs: lines with expressions, and all that is asked of them before they may be run."""

from neverfactored.element import SMALL_LETTERS, is_letter
from neverfactored.errors import BadProgram
from neverfactored.ratios import is_whole
from neverfactored.ways import names_known

MOST_LINES = 60
MOST_PARTS = 400
MOST_HEIGHT = 40
MOST_POWER = 4
MOST_TIMES = 6
MOST_ROUNDS = 36
MOST_TESTS = 6
MOST_VALUES = 3
# The greatest number has 300 digits.
END_OF_NUMBERS = (10 ** 60) ** 5
KEYWORDS = ("let", "if", "else", "end", "for", "times", "stop", "and", "or")
NO_MARKS = ("broken", "end")
LINE_LENGTHS = {"let": 3, "if": 3, "else": 1, "end": 1, "for": 2, "stop": 3}
PAIRS = ("plus", "minus", "times", "over")


def is_small_word(thing, least, most):
    """Return whether a thing of any kind is a text of so many small letters."""
    if not isinstance(thing, str) or not least <= len(thing) <= most:
        return False
    return all([character in SMALL_LETTERS for character in thing])


def is_name(thing):
    """Return whether a thing of any kind is a name that a program may let."""
    return is_small_word(thing, 2, 8) and thing not in KEYWORDS


def is_mark(thing):
    """Return whether a thing of any kind is a mark that a stop line may bear."""
    return is_small_word(thing, 1, 8) and thing not in NO_MARKS


def is_readable(thing):
    """Return whether a thing of any kind is a letter that a program may read: a named letter or t."""
    return is_letter(thing) or thing == "t"


def parts_within(thing):
    """Return the things of which an expression of this form is made, None if a thing of any kind has no such form."""
    if not isinstance(thing, tuple) or len(thing) < 2 or not isinstance(thing[0], str):
        return None
    word = thing[0]
    if len(thing) == 3:
        if word == "power" and is_whole(thing[2], 0, MOST_POWER):
            return thing[1:2]
        return thing[1:] if word in PAIRS else None
    if len(thing) == 2:
        if word == "negative":
            return thing[1:]
        return () if is_leaf(word, thing[1]) else None
    return None


def is_leaf(word, thing):
    """Return whether the word and the thing are an expression without others within."""
    if word == "number":
        return is_whole(thing, 0, END_OF_NUMBERS - 1)
    return (word == "letter" and is_readable(thing)) or (word == "name" and is_name(thing))


def is_expression(thing):
    """Return whether a thing of any kind is an expression of not too many parts and not too high."""
    waiting = [(thing, 1)]
    count = 0
    while waiting:
        part, height = waiting.pop()
        within = parts_within(part)
        count += 1
        if within is None or count > MOST_PARTS or height > MOST_HEIGHT:
            return False
        waiting.extend([(inner, height + 1) for inner in within])
    return True


def leaves_of(expression, word):
    """Return what stands in an expression under the word "letter" or "name", once for each place."""
    found = []
    waiting = [expression]
    while waiting:
        part = waiting.pop()
        if part[0] == word:
            found.append(part[1])
        waiting.extend(parts_within(part))
    return found


def expressions_of(line):
    """Return the expressions of a line."""
    if line[0] == "let":
        return [line[2]]
    if line[0] == "if":
        return [side for test in line[1] for side in test[1:]]
    return list(line[2]) if line[0] == "stop" else []


def are_all(thing, least, most, is_right):
    """Return whether a thing of any kind is a tuple of so many things of which each is right."""
    return isinstance(thing, tuple) and least <= len(thing) <= most and all([is_right(part) for part in thing])


def is_test(thing):
    """Return whether a thing of any kind is a test."""
    if not isinstance(thing, tuple) or len(thing) != 3 or not isinstance(thing[0], str):
        return False
    return thing[0] in ("=", "!=") and is_expression(thing[1]) and is_expression(thing[2])


def is_join(thing):
    """Return whether a thing of any kind joins two tests."""
    return isinstance(thing, str) and thing in ("and", "or")


def line_fault(line):
    """Return the word for what a line, a thing of any kind, shows alone, or None."""
    if not isinstance(line, tuple) or not line or not isinstance(line[0], str) or line[0] not in LINE_LENGTHS:
        return "word"
    if len(line) != LINE_LENGTHS[line[0]]:
        return "word"
    if line[0] == "let":
        return let_fault(line[1], line[2])
    if line[0] == "if":
        return if_fault(line[1], line[2])
    if line[0] == "for":
        return None if is_whole(line[1], 0, MOST_TIMES) else "times"
    return stop_fault(line[1], line[2]) if line[0] == "stop" else None


def let_fault(name, expression):
    """Return the word for what a let line shows, or None."""
    if is_readable(name):
        return "letter"
    return None if is_name(name) and is_expression(expression) else "sign"


def if_fault(tests, joins):
    """Return the word for what an if line shows, or None."""
    if not are_all(tests, 1, MOST_TESTS, is_test):
        return "sign"
    return None if are_all(joins, len(tests) - 1, len(tests) - 1, is_join) else "sign"


def stop_fault(mark, values):
    """Return the word for what a stop line shows, or None."""
    if not is_mark(mark):
        return "mark"
    if not isinstance(values, tuple) or len(values) > MOST_VALUES:
        return "values"
    return None if all([is_expression(value) for value in values]) else "sign"


def refuse_alone(lines):
    """Refuse too many lines, and the first line that is wrong alone."""
    if not isinstance(lines, (list, tuple)):
        raise BadProgram(0, "many")
    if len(lines) > MOST_LINES:
        raise BadProgram(MOST_LINES, "many")
    for number, line in enumerate(lines):
        what = line_fault(line)
        if what is not None:
            raise BadProgram(number, what)


def refuse_blocks(lines):
    """Refuse the first else line and end line that belongs to no block, then a block without an end line."""
    begun = []
    for number, line in enumerate(lines):
        word = line[0]
        if word in ("if", "for"):
            begun.append((word, number))
        elif word == "else":
            if not begun or begun[-1][0] != "if":
                raise BadProgram(number, "end")
            begun[-1] = ("else", begun[-1][1])
        elif word == "end":
            if not begun:
                raise BadProgram(number, "end")
            begun.pop()
    if begun:
        raise BadProgram(begun[-1][1], "end")


def refuse_rounds(lines):
    """Refuse the first for line that would be run through too often, all for lines around it counted."""
    rounds = [1]
    for number, line in enumerate(lines):
        if line[0] == "for":
            if rounds[-1] * line[1] > MOST_ROUNDS:
                raise BadProgram(number, "times")
            rounds.append(rounds[-1] * line[1])
        elif line[0] == "if":
            rounds.append(rounds[-1])
        elif line[0] == "end":
            rounds.pop()


def refuse_values(lines):
    """Refuse the first stop line whose mark was borne by one with another number of values."""
    counts = {}
    for number, line in enumerate(lines):
        if line[0] == "stop" and counts.setdefault(line[1], len(line[2])) != len(line[2]):
            raise BadProgram(number, "values")


def refuse_names(lines):
    """Refuse the first line in which a name is used that is not known there."""
    for number, (line, known) in enumerate(zip(lines, names_known(lines))):
        if known is not None:
            for name in words_of([line], "name"):
                if name not in known:
                    raise BadProgram(number, "name")


def words_of(lines, word):
    """Return what stands in the lines' expressions under the word "letter" or "name", ascending, each once."""
    return tuple(sorted({leaf for line in lines for side in expressions_of(line) for leaf in leaves_of(side, word)}))


class Program:
    """Lines that can be run, with the letters that they read, the names that they let and the marks that they bear."""

    def __init__(self, lines):
        refuse_alone(lines)
        refuse_blocks(lines)
        refuse_rounds(lines)
        refuse_values(lines)
        refuse_names(lines)
        self.lines = tuple(lines)
        self.letters = words_of(lines, "letter")
        self.names = tuple(sorted({line[1] for line in lines if line[0] == "let"}))
        self.marks = tuple(sorted({(line[1], len(line[2])) for line in lines if line[0] == "stop"}))

    def __eq__(self, other):
        return isinstance(other, Program) and self.lines == other.lines

    def __len__(self):
        return len(self.lines)

    def __iter__(self):
        return iter(self.lines)
