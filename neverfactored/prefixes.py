"""Sayings: whether a program has a mark at some, all or just so many of the points over one another."""

from neverfactored.errors import BadPrefix, BadSaying
from neverfactored.forms import bare_form
from neverfactored.machine import refuse_program, run_system
from neverfactored.plaintowers import plain_towers
from neverfactored.programs import NO_MARKS, Program, is_mark
from neverfactored.ratios import is_whole
from neverfactored.refining import counted_beginnings, less_towers
from neverfactored.systems import System
from neverfactored.towers import Tower

MOST_WORDS = 4
MOST_POINTS = 24


class Saying:
    """A program, a mark and a prefix of words, the first word for the last letter."""

    def __init__(self, program, mark, prefix):
        if not isinstance(program, Program):
            raise BadSaying("program")
        if not is_mark(mark) and not (isinstance(mark, str) and mark in NO_MARKS):
            raise BadSaying("mark")
        if not is_prefix(prefix):
            raise BadSaying("prefix")
        self.program = program
        self.mark = mark
        self.prefix = tuple([word if isinstance(word, str) else tuple(word) for word in prefix])

    def __eq__(self, other):
        return (isinstance(other, Saying) and self.program == other.program and self.mark == other.mark
                and self.prefix == other.prefix)


def is_prefix(thing):
    """Return whether a thing of any kind is a sequence of not too many words."""
    return isinstance(thing, (list, tuple)) and len(thing) <= MOST_WORDS and all([is_word(word) for word in thing])


def is_word(thing):
    """Return whether a thing of any kind is "some", "all" or a couple of "just" and a number of points."""
    if isinstance(thing, str):
        return thing in ("some", "all")
    if not isinstance(thing, (list, tuple)) or len(thing) != 2:
        return False
    return isinstance(thing[0], str) and thing[0] == "just" and is_whole(thing[1], 0, MOST_POINTS)


def kept_points(system, saying):
    """Return the form of the kept points of the letters for which the saying has no word."""
    many = len(saying.prefix)
    if many >= len(system.letters):
        raise BadPrefix(many)
    refuse_program(saying.program, system)
    return bare_form(system.letters[:len(system.letters) - many], kept_towers(system, saying))


def ask_saying(system, saying):
    """Return whether a saying with a word for each letter holds."""
    refuse_prefix(system, saying)
    refuse_program(saying.program, system)
    return kept_towers(system, saying) != ()


def refuse_prefix(system, saying):
    """Refuse a saying that has not a word for each letter of the system."""
    if len(saying.prefix) != len(system.letters):
        raise BadPrefix(len(saying.prefix))


def kept_towers(system, saying, notes=None):
    """Return towers without a common point of the kept points of the letters for which the saying has no word."""
    kept = tuple([lot.tower for lot in run_system(saying.program, system, notes) if lot.mark == saying.mark])
    many = len(system.letters)
    for word in saying.prefix:
        many -= 1
        if word == "some":
            kept = beginnings(kept, notes)
        elif word == "all":
            lacking = less_towers(towers_over(system, many + 1, notes), kept, notes)
            kept = less_towers(towers_over(system, many, notes), beginnings(lacking, notes), notes)
        elif word[1] == 0:
            kept = less_towers(towers_over(system, many, notes), beginnings(kept, notes), notes)
        else:
            kept = tuple([base for base, number in counted_beginnings(kept, notes) if number == word[1]])
    return kept


def beginnings(towers, notes):
    """Return towers of the points of all letters but the last over which some point stands."""
    return tuple([base for base, _ in counted_beginnings(towers, notes)])


def towers_over(system, many, notes):
    """Return the towers of the points of the first letters of a system, so many of them."""
    if many == 0:
        return (Tower((), ()),)
    letters = system.letters[:many]
    first = System(letters, system.equations[:many], system.free, special=letters[0] == "t")
    return plain_towers(first, notes)
