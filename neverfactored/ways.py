"""The blocks of a program, and the names that are known at its lines whichever way leads to them."""


def partner_lines(lines):
    """Return for each line None, or (else line or None, end line) for an if line, (None, end line) for a for line."""
    partners = [None for _ in lines]
    begun = []
    for number, line in enumerate(lines):
        if line[0] in ("if", "for"):
            begun.append((number, None))
        elif line[0] == "else":
            first, _ = begun.pop()
            begun.append((first, number))
        elif line[0] == "end":
            first, middle = begun.pop()
            partners[first] = (middle, number)
    return tuple(partners)


def depth_of(lines):
    """Return the greatest number of blocks that lie one within another."""
    depth = 0
    greatest = 0
    for line in lines:
        if line[0] in ("if", "for"):
            depth += 1
            greatest = max(greatest, depth)
        elif line[0] == "end":
            depth -= 1
    return greatest


class Block:
    """A block that is gone through: its first line, the names known there, and those behind its yes side."""

    def __init__(self, line, ahead):
        self.line = line
        self.ahead = ahead
        self.parted = False
        self.behind_yes = None

    def begin_no_side(self, now):
        """Keep the names now as those behind the yes side, and return those known at the no side."""
        self.parted = True
        self.behind_yes = now
        return self.ahead

    def names_behind(self, now):
        """Return the names known behind the block, of which now are known at its end line."""
        if self.line[0] == "for":
            return self.ahead if self.line[1] == 0 else now
        if self.parted:
            return names_of_both(self.behind_yes, now)
        return names_of_both(now, self.ahead)


def names_of_both(one, other):
    """Return the names known where two ways come together; None is a way that never comes there."""
    if one is None or other is None:
        return other if one is None else one
    return tuple([name for name in one if name in other])


def names_known(lines):
    """Return for each line the ascending tuple of the names known there, None if no way comes to it.

    For an else line these are the names behind the yes side, for an end line those behind the block.
    """
    known = []
    blocks = []
    now = ()
    for line in lines:
        if line[0] == "end":
            now = blocks.pop().names_behind(now)
        known.append(now)
        if line[0] == "else":
            now = blocks[-1].begin_no_side(now)
        elif line[0] in ("if", "for"):
            blocks.append(Block(line, now))
        now = names_after(line, now)
    return tuple(known)


def names_after(line, now):
    """Return the names known behind a line at which the names now are known, on the way that goes into its block."""
    if line[0] == "stop" or line == ("for", 0):
        return None
    if line[0] == "let" and now is not None and line[1] not in now:
        return tuple(sorted(now + (line[1],)))
    return now
