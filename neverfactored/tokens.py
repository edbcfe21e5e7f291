"""The numbers, words and signs that a text consists of."""

from neverfactored.element import SMALL_LETTERS

DIGITS = "0123456789"
MOST_DIGITS = 300


def tokens_of(text, signs):
    """Return the list of couples (kind, piece of the text), one with the kind "end" and an empty piece as the last.

    The other kinds are "number", "word", "sign" and "wrong". A "wrong" piece is a character that is not allowed or
    digits that are no number: whether it does harm depends on whether a reader comes to it. Signs are told in the
    order in which they are tried.
    """
    tokens = []
    place = 0
    while place < len(text):
        if text[place] == " ":
            place += 1
        else:
            kind, piece = token_at(text, place, signs)
            tokens.append((kind, piece))
            place += len(piece)
    tokens.append(("end", ""))
    return tokens


def token_at(text, place, signs):
    """Return the number, word, sign or wrong piece that begins here."""
    if text[place] in DIGITS:
        number = text[place:end_of_run(text, place, DIGITS)]
        return ("number" if is_number(number) else "wrong", number)
    if text[place] in SMALL_LETTERS:
        return ("word", text[place:end_of_run(text, place, SMALL_LETTERS + DIGITS)])
    for sign in signs:
        if text[place:place + len(sign)] == sign:
            return ("sign", sign)
    return ("wrong", text[place])


def end_of_run(text, place, characters):
    """Return the place behind all such characters that stand here one behind the other."""
    end = place
    while end < len(text) and text[end] in characters:
        end += 1
    return end


def is_number(digits):
    """Return whether digits are a number: not too many, no 0 ahead of others."""
    return len(digits) <= MOST_DIGITS and (digits == "0" or digits[0] != "0")
