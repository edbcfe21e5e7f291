"""Every error of the package. Each is straight under RootError."""


class RootError(ValueError):
    """The error above every other one of the package."""


class BadRatio(RootError):
    """The top or the bottom of a ratio is none: what is "top" or "bottom"."""

    def __init__(self, what):
        self.what = what


class DividedByNought(RootError):
    """Something was divided by 0."""


class Pole(RootError):
    """The bottom of a quotient is 0 where t is the ratio `at`."""

    def __init__(self, at):
        self.at = at


class BadElement(RootError):
    """The row with this number is no couple of exponents and a quotient."""

    def __init__(self, index):
        self.index = index


class BadText(RootError):
    """A line of a text cannot be read; what tells why."""

    def __init__(self, line, what):
        self.line = line
        self.what = what


class BadTower(RootError):
    """Letters and equations are no tower; place is the number of the equation."""

    def __init__(self, what, place):
        self.what = what
        self.place = place


class NoPlace(RootError):
    """There is no place with this number."""

    def __init__(self, place):
        self.place = place


class NoLetter(RootError):
    """The thing is not among the letters."""

    def __init__(self, letter):
        self.letter = letter


class BadSystem(RootError):
    """Letters and equations are no system; place is the number of the equation."""

    def __init__(self, what, place):
        self.what = what
        self.place = place


class TooMany(RootError):
    """The product of the degrees of a system is above `most`."""

    def __init__(self, most):
        self.most = most


class OtherLetters(RootError):
    """Two things have not the same letters in the same order."""


class NotMonic(RootError):
    """A polynomial that must be monic is not."""


class ZeroNote(RootError):
    """The poly 0 was noted as not 0."""


class HasFree(RootError):
    """The free letter stands where it must not."""


class BadProgram(RootError):
    """A line is none of a program; what tells why."""

    def __init__(self, line, what):
        self.line = line
        self.what = what


class BadPoint(RootError):
    """Letters and numbers are no point; what tells why."""

    def __init__(self, index, what):
        self.index = index
        self.what = what


class LackingLetter(RootError):
    """A program reads a letter that it is not told."""

    def __init__(self, letter):
        self.letter = letter


class NoPoint(RootError):
    """The point is not among those that are told."""


class NotOne(RootError):
    """There is not exactly one piece."""


class NoMark(RootError):
    """No stop line of the program bears the mark."""

    def __init__(self, mark):
        self.mark = mark


class NoneMarked(RootError):
    """No point has the mark."""


class BadSaying(RootError):
    """A program, a mark and a prefix are no saying; what tells why."""

    def __init__(self, what):
        self.what = what


class BadPrefix(RootError):
    """The number of words of a prefix does not fit the letters of a system."""

    def __init__(self, many):
        self.many = many


class BadLot(RootError):
    """A kind and a poly are no free lot; what tells why."""

    def __init__(self, what):
        self.what = what


class NoFree(RootError):
    """The system has no free letter."""


class Parted(RootError):
    """An element is 0 at some points and not at others, so what asked for it must be done for each part alone.

    This one is for the runs within the package alone; none of the functions that are promised raises it.
    """

    def __init__(self, element, zeros, others):
        self.element = element
        self.zeros = zeros
        self.others = others
