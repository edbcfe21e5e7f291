"""Texts of programs, and programs of texts."""

from neverfactored.errors import BadProgram
from neverfactored.programreader import read_line
from neverfactored.programs import MOST_LINES, Program

SIGNS = {"plus": "+", "minus": "-", "times": "*", "over": "/", "power": "**"}
# How closely an expression holds together: what stands in a place for closer ones needs brackets.
BINDING = {"plus": 1, "minus": 1, "times": 2, "over": 2, "negative": 3, "power": 4}
CLOSEST = 5


def expression_text(expression):
    """Return the one text of an expression, with the least brackets."""
    word = expression[0]
    if word in ("letter", "name"):
        return expression[1]
    if word == "number":
        return f"{expression[1]}"
    own = BINDING[word]
    if word == "negative":
        return "-" + text_within(expression[1], own)
    if word == "power":
        return f"{text_within(expression[1], CLOSEST)} ** {expression[2]}"
    # Signs that bind alike are read from the left, so only what stands on the right must be closer.
    return f"{text_within(expression[1], own)} {SIGNS[word]} {text_within(expression[2], own + 1)}"


def text_within(expression, closeness):
    """Return the text of an expression in a place for those that hold together so closely at least."""
    text = expression_text(expression)
    return text if BINDING.get(expression[0], CLOSEST) >= closeness else f"({text})"


def line_text(line):
    """Return the text of a line without blanks ahead."""
    word = line[0]
    if word == "let":
        return f"let {line[1]} = {expression_text(line[2])}"
    if word == "if":
        return "if " + tests_text(line[1], line[2])
    if word == "for":
        return f"for {line[1]} times"
    if word == "stop" and line[2]:
        return f"stop {line[1]} " + ", ".join([expression_text(value) for value in line[2]])
    return f"stop {line[1]}" if word == "stop" else word


def tests_text(tests, joins):
    """Return the text of the tests of an if line."""
    pieces = [f"{expression_text(left)} {sign} {expression_text(right)}" for sign, left, right in tests]
    for place, join in enumerate(joins):
        pieces[place + 1] = f"{join} {pieces[place + 1]}"
    return " ".join(pieces)


def program_text(program):
    """Return the one text of a program, each line indented by its blocks."""
    pieces = []
    depth = 0
    for line in program.lines:
        if line[0] == "end":
            depth -= 1
        outer = depth - 1 if line[0] == "else" else depth
        pieces.append("  " * outer + line_text(line))
        if line[0] in ("if", "for"):
            depth += 1
    return "\n".join(pieces)


def read_program(text):
    """Return the program of a text."""
    pieces = [piece.strip(" ") for piece in text.split("\n")]
    pieces = [piece for piece in pieces if piece != ""]
    if len(pieces) > MOST_LINES:
        raise BadProgram(MOST_LINES, "many")
    return Program([read_line(piece, number) for number, piece in enumerate(pieces)])
