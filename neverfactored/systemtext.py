"""Texts of systems and towers, and systems of texts."""

from neverfactored.element import is_letter
from neverfactored.elementtext import element_text
from neverfactored.errors import BadText
from neverfactored.sumreader import read_sum
from neverfactored.systems import System

FREE_LINE = "free t"


def system_text(system):
    """Return the lines of a system: "free t" if it is free, then one for each letter."""
    lines = equation_lines(system.letters, system.equations)
    return "\n".join([FREE_LINE] + lines if system.free else lines)


def tower_text(tower):
    """Return the lines of a tower, one for each letter."""
    return "\n".join(equation_lines(tower.letters, tower.equations))


def equation_lines(letters, equations):
    """Return the list of the lines "x: " and the text of the equation."""
    return [f"{letter}: {element_text(equation, letters[:place + 1])}"
            for place, (letter, equation) in enumerate(zip(letters, equations))]


def read_system(text):
    """Return the system of a text."""
    pieces = [piece.strip(" ") for piece in text.split("\n")]
    lines = [piece for piece in pieces if piece != ""]
    free = lines[:1] == [FREE_LINE]
    letters = []
    equations = []
    for number, line in enumerate(lines):
        if number > 0 or not free:
            letter, equation = read_line(line, letters, free, number)
            letters.append(letter)
            equations.append(equation)
    return System(letters, equations, free)


def read_line(line, letters, free, number):
    """Return the letter and the equation of the line with this number; letters are those told so far."""
    head, colon, rest = line.partition(":")
    if colon == "":
        raise BadText(number, "sign")
    letter = head.strip(" ")
    if not is_letter(letter) or letter in letters:
        raise BadText(number, "letter")
    return letter, read_sum(rest, letters + [letter], free, number)
