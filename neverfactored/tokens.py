"""The numbers, words and signs that a text consists of."""

from neverfactored.element import SMALL_LETTERS

DIGITS = "0123456789"
MOST_DIGITS = 300


class TokenReader:
    """Goes through a text from the left; what stands farther right is not yet seen."""

    def __init__(self, text, doubles):
        self.tokens = tokens_of(text, doubles)
        self.at = 0

    def token(self):
        """Return the couple (kind, piece) that stands here."""
        return self.tokens[self.at]

    def is_at_end(self):
        """Return whether nothing more stands here."""
        return self.tokens[self.at][0] == "end"

    def passes(self, piece):
        """Return whether this number, word or sign stands here, and go behind it if so."""
        if self.tokens[self.at][1] != piece:
            return False
        self.at += 1
        return True

    def next_piece(self):
        """Go behind the number, word or sign that stands here and return it."""
        piece = self.tokens[self.at][1]
        self.at += 1
        return piece


def tokens_of(text, doubles):
    """Return the list of couples (kind, piece of the text), one with the kind "end" and an empty piece as the last.

    The other kinds are "number", "word", "sign" and "digits", the last for digits that are no number. Doubles are the
    signs of two characters; every other character is a sign of its own, also one that no reader knows: nothing is
    refused before a reader comes to it.
    """
    tokens = []
    place = 0
    while place < len(text):
        if text[place] == " ":
            place += 1
        else:
            kind, piece = token_at(text, place, doubles)
            tokens.append((kind, piece))
            place += len(piece)
    tokens.append(("end", ""))
    return tokens


def token_at(text, place, doubles):
    """Return the number, word, sign or digits that begin here."""
    if text[place] in DIGITS:
        number = text[place:end_of_run(text, place, DIGITS)]
        return ("number" if is_number(number) else "digits", number)
    if text[place] in SMALL_LETTERS:
        return ("word", text[place:end_of_run(text, place, SMALL_LETTERS + DIGITS)])
    if text[place:place + 2] in doubles:
        return ("sign", text[place:place + 2])
    return ("sign", text[place])


def end_of_run(text, place, characters):
    """Return the place behind all such characters that stand here one behind the other."""
    end = place
    while end < len(text) and text[end] in characters:
        end += 1
    return end


def is_number(digits):
    """Return whether digits are a number: not too many, no 0 ahead of others."""
    return len(digits) <= MOST_DIGITS and (digits == "0" or digits[0] != "0")
