"""Reading one line of a program from its text."""

from neverfactored.errors import BadProgram
from neverfactored.programs import (
    LINE_LENGTHS, MOST_POWER, MOST_TESTS, MOST_TIMES, MOST_VALUES, is_expression, is_mark, is_name, is_readable)
from neverfactored.tokens import TokenReader

DOUBLES = ("**", "!=")
MOST_BRACKETS = 40
SUM_SIGNS = {"+": "plus", "-": "minus"}
PRODUCT_SIGNS = {"*": "times", "/": "over"}


class LineReader(TokenReader):
    """Reads what stands behind the first word of a line; the number of the line is told with an error."""

    def __init__(self, text, number):
        super().__init__(text, DOUBLES)
        self.number = number
        self.brackets = 0

    def piece(self):
        """Return the number, word or sign that stands here, an empty text at the end."""
        return self.token()[1]

    def pass_sign(self, sign):
        """Go behind the one sign that can stand here."""
        if not self.passes(sign):
            raise BadProgram(self.number, "sign")

    def pass_end(self):
        """Refuse whatever stands here but the end."""
        if not self.is_at_end():
            raise BadProgram(self.number, "sign")

    def read_expression(self):
        """Read an expression that is neither too long nor too high."""
        found = self.read_sum()
        if not is_expression(found):
            raise BadProgram(self.number, "sign")
        return found

    def read_sum(self):
        """Read terms with "+" and "-" between."""
        found = self.read_product()
        while self.piece() in SUM_SIGNS:
            word = SUM_SIGNS[self.next_piece()]
            found = (word, found, self.read_product())
        return found

    def read_product(self):
        """Read factors with "*" and "/" between."""
        found = self.read_factor()
        while self.piece() in PRODUCT_SIGNS:
            word = PRODUCT_SIGNS[self.next_piece()]
            found = (word, found, self.read_factor())
        return found

    def read_factor(self):
        """Read a power with any number of minus signs ahead."""
        signs = 0
        while self.passes("-"):
            signs += 1
        found = self.read_power()
        for _ in range(signs):
            found = ("negative", found)
        return found

    def read_power(self):
        """Read a number, letter, name or bracket, perhaps with a power."""
        found = self.read_base()
        if not self.passes("**"):
            return found
        if not self.is_small_number(MOST_POWER):
            raise BadProgram(self.number, "sign")
        return ("power", found, int(self.next_piece()))

    def is_small_number(self, most):
        """Return whether a number of one digit stands here that is not above most."""
        kind, piece = self.token()
        return kind == "number" and len(piece) == 1 and int(piece) <= most

    def read_base(self):
        """Read a number, letter, name or bracket."""
        if self.passes("("):
            return self.read_bracket()
        kind, piece = self.token()
        if kind == "number":
            return ("number", int(self.next_piece()))
        if is_readable(piece):
            return ("letter", self.next_piece())
        if is_name(piece):
            return ("name", self.next_piece())
        raise BadProgram(self.number, "sign")

    def read_bracket(self):
        """Read what stands in a bracket that has just begun, and its end."""
        # Each bracket is a call within a call: there must not be too many, however needless they are.
        if self.brackets == MOST_BRACKETS:
            raise BadProgram(self.number, "sign")
        self.brackets += 1
        found = self.read_sum()
        self.pass_sign(")")
        self.brackets -= 1
        return found


def read_line(text, number):
    """Return the line of a text without blanks at its ends; the number is told with an error."""
    word, _, rest = text.partition(" ")
    if word not in LINE_LENGTHS:
        raise BadProgram(number, "word")
    if word == "let":
        return read_let(LineReader(rest, number))
    if word == "if":
        return read_if(LineReader(rest, number))
    if word == "for":
        return read_for(LineReader(rest, number))
    if word == "stop":
        return read_stop(rest.strip(" "), number)
    if rest != "":
        raise BadProgram(number, "word")
    return (word,)


def read_let(reader):
    """Read a let line behind its first word."""
    name = reader.piece()
    if is_readable(name):
        raise BadProgram(reader.number, "letter")
    if not is_name(name):
        raise BadProgram(reader.number, "sign")
    reader.next_piece()
    reader.pass_sign("=")
    expression = reader.read_expression()
    reader.pass_end()
    return ("let", name, expression)


def read_if(reader):
    """Read an if line behind its first word."""
    tests = [read_test(reader)]
    joins = []
    while reader.piece() in ("and", "or"):
        joins.append(reader.next_piece())
        tests.append(read_test(reader))
    reader.pass_end()
    if len(tests) > MOST_TESTS:
        raise BadProgram(reader.number, "sign")
    return ("if", tuple(tests), tuple(joins))


def read_test(reader):
    """Read one test."""
    left = reader.read_expression()
    if reader.piece() not in ("=", "!="):
        raise BadProgram(reader.number, "sign")
    sign = reader.next_piece()
    return (sign, left, reader.read_expression())


def read_for(reader):
    """Read a for line behind its first word."""
    if not reader.is_small_number(MOST_TIMES):
        raise BadProgram(reader.number, "times")
    times = int(reader.next_piece())
    if not reader.passes("times") or not reader.is_at_end():
        raise BadProgram(reader.number, "times")
    return ("for", times)


def read_stop(text, number):
    """Read a stop line behind its first word, a text without blanks at its ends."""
    mark, _, rest = text.partition(" ")
    if not is_mark(mark):
        raise BadProgram(number, "mark")
    if rest.count(",") >= MOST_VALUES:
        raise BadProgram(number, "values")
    values = []
    if rest != "":
        reader = LineReader(rest, number)
        values.append(reader.read_expression())
        while reader.passes(","):
            values.append(reader.read_expression())
        reader.pass_end()
    return ("stop", mark, tuple(values))
