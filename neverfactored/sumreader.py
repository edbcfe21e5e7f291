"""Reading a sum of terms from its text."""

from neverfactored.element import make_element
from neverfactored.errors import BadText
from neverfactored.quotients import (
    QUOTIENT_ONE, make_quotient, poly_quotient, quotient_negative, quotient_times, ratio_quotient)
from neverfactored.ratios import ONE, ZERO, make_ratio
from neverfactored.tokens import TokenReader

DOUBLES = ("**",)


def read_sum(text, letters, free, line):
    """Return the element of a whole text over the letters; free tells whether t is the free letter.

    BadText with the line if the text cannot be read.
    """
    reader = SumReader(text, line)
    element = reader.read_terms(Scope(letters, free, free))
    reader.pass_end()
    return element


class Scope:
    """What may stand in a sum: its letters, t as the free letter or not, brackets or none."""

    def __init__(self, letters, free, brackets):
        self.letters = tuple(letters)
        self.free = free
        self.brackets = brackets


class SumReader(TokenReader):
    """Reads a sum; the line is told with an error."""

    def __init__(self, text, line):
        super().__init__(text, DOUBLES)
        self.line = line

    def end_or(self, what):
        """Return the word for something wrong here: the end of the text has its own."""
        return "end" if self.is_at_end() else what

    def pass_sign(self, sign):
        """Go behind the one sign that can stand here."""
        if not self.passes(sign):
            raise BadText(self.line, self.end_or("sign"))

    def pass_end(self):
        """Refuse whatever stands here but the end."""
        if not self.is_at_end():
            raise BadText(self.line, "sign")

    def read_terms(self, scope):
        """Read a sum and return its element over the letters of the scope."""
        rows = [self.read_term(scope, self.passes("-"))]
        while self.token()[1] in ("+", "-"):
            below = self.next_piece() == "-"
            rows.append(self.read_term(scope, below))
        return make_element(rows, len(scope.letters))

    def read_term(self, scope, below):
        """Read a term and return its exponents and its quotient, the negative one if below is True."""
        exponents, quotient = self.read_factor(scope)
        while self.passes("*"):
            others, factor = self.read_factor(scope)
            exponents = tuple([power + more for power, more in zip(exponents, others)])
            quotient = quotient_times(quotient, factor)
        return exponents, quotient_negative(quotient) if below else quotient

    def read_factor(self, scope):
        """Read a factor and return its exponents and its quotient."""
        kind, piece = self.token()
        if kind == "word":
            return self.read_letter(scope)
        noughts = (0,) * len(scope.letters)
        if kind == "number":
            return noughts, ratio_quotient(self.read_ratio())
        if piece == "(" and scope.brackets:
            return noughts, self.read_fraction()
        raise BadText(self.line, self.end_or("sign"))

    def read_ratio(self):
        """Read a number, or a number over another one."""
        top = int(self.next_piece())
        if not self.passes("/"):
            return make_ratio(top)
        self.refuse_nought()
        if self.token()[0] != "number":
            raise BadText(self.line, self.end_or("sign"))
        return make_ratio(top, int(self.next_piece()))

    def refuse_nought(self):
        """Refuse a 0 behind a "/"."""
        if self.token()[1] == "0":
            raise BadText(self.line, "bottom")

    def read_letter(self, scope):
        """Read a letter, perhaps with its power, and return its exponents and its quotient."""
        letter = self.next_piece()
        if letter not in scope.letters and not (scope.free and letter == "t"):
            raise BadText(self.line, "letter")
        power = self.read_power()
        exponents = tuple([power if name == letter else 0 for name in scope.letters])
        if letter in scope.letters:
            return exponents, QUOTIENT_ONE
        return exponents, poly_quotient((ZERO,) * power + (ONE,))

    def read_power(self):
        """Read the power behind a letter; it is 1 if none stands there."""
        if not self.passes("**"):
            return 1
        kind, piece = self.token()
        if kind != "number" or len(piece) > 2:
            raise BadText(self.line, self.end_or("power"))
        return int(self.next_piece())

    def read_fraction(self):
        """Read two sums of numbers and t, each in brackets, the first one over the second."""
        top = self.read_brackets()
        self.pass_sign("/")
        self.refuse_nought()
        bottom = self.read_brackets()
        if bottom == ():
            raise BadText(self.line, "bottom")
        return make_quotient(top, bottom)

    def read_brackets(self):
        """Read a sum of numbers and t in brackets and return its poly."""
        self.pass_sign("(")
        element = self.read_terms(Scope((), True, False))
        self.pass_sign(")")
        return element[0][1][0] if element else ()
