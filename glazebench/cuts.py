"""Trees of cuts: how a piece of glass is cut, and the pieces that come of it.

A tree is walked as a list of entries (word, number), one for each cut and each whole piece: a cut's own entry,
then those of its first part, then those of the other one. It is a list, and not a call within a call, since a
tree that fits no sheet may be more than a hundred cuts deep.
"""

from glazebench.errors import NoCut
from glazebench.panels import Panel, check_sides, is_whole

WHOLE = "whole"
UPRIGHT = "upright"
LEVEL = "level"


class Tree:
    def leaves(self):
        return len([word for word, number in entries_of(self) if word == WHOLE])

    def depth(self):
        deepest = 0
        waiting = [0]
        for word, number in entries_of(self):
            here = waiting.pop()
            deepest = max(deepest, here)
            if word != WHOLE:
                waiting.extend([here + 1, here + 1])
        return deepest

    def turned(self):
        return tree_from([(turned_word(word), number) for word, number in entries_of(self)])

    def fits(self, width, height):
        try:
            cut_out(self, width, height)
        except NoCut:
            return False
        return True

    def same(self, other):
        return entries_of(self) == entries_of(other)


class Whole(Tree):
    def __init__(self, mark=None):
        self.mark = mark


class Upright(Tree):
    def __init__(self, at, first, other):
        self.at = at
        self.first = first
        self.other = other


class Level(Tree):
    def __init__(self, at, first, other):
        self.at = at
        self.first = first
        self.other = other


def kind_of(tree):
    if isinstance(tree, Whole):
        return WHOLE
    return UPRIGHT if isinstance(tree, Upright) else LEVEL


def entry_of(tree):
    kind = kind_of(tree)
    return (kind, tree.mark if kind == WHOLE else tree.at)


def entries_of(tree):
    entries = []
    waiting = [tree]
    while waiting:
        part = waiting.pop()
        entries.append(entry_of(part))
        if not isinstance(part, Whole):
            # The first part lies on top, so that all of it comes ahead of the other one.
            waiting.extend([part.other, part.first])
    return entries


def cut_from(word, at, first, other):
    if word == UPRIGHT:
        return Upright(at, first, other)
    return Level(at, first, other)


def tree_from(entries):
    # Walked from its end, the list gives both parts of a cut ahead of the cut, the first part on top.
    done = []
    for word, number in reversed(entries):
        if word == WHOLE:
            done.append(Whole(number))
        else:
            first = done.pop()
            other = done.pop()
            done.append(cut_from(word, number, first, other))
    return done.pop()


def entries_by(sheet, entry_at):
    """The entries of the tree that is told piece by piece: entry_at tells the entry of a piece of the sheet."""
    entries = []
    waiting = [sheet]
    while waiting:
        piece = waiting.pop()
        entry = entry_at(piece)
        entries.append(entry)
        if entry[0] in (UPRIGHT, LEVEL):
            # The first part lies on top, so that all of it comes ahead of the other one.
            waiting.append(other_piece(piece, entry[0], entry[1]))
            waiting.append(first_piece(piece, entry[0], entry[1]))
    return entries


def turned_word(word):
    if word == WHOLE:
        return WHOLE
    return LEVEL if word == UPRIGHT else UPRIGHT


def check_cut(piece, word, at):
    length = piece[3] - piece[1] if word == UPRIGHT else piece[2] - piece[0]
    if not is_whole(at) or not 1 <= at < length:
        raise NoCut(at)


def first_piece(piece, word, at):
    if word == UPRIGHT:
        return (piece[0], piece[1], piece[2], piece[1] + at)
    return (piece[0], piece[1], piece[0] + at, piece[3])


def other_piece(piece, word, at):
    if word == UPRIGHT:
        return (piece[0], piece[1] + at, piece[2], piece[3])
    return (piece[0] + at, piece[1], piece[2], piece[3])


def cut_out(tree, width, height):
    found = []
    # The pieces wait in the order of the entries, so the last one is always the piece of the entry at hand.
    waiting = [(0, 0, height, width)]
    for word, number in entries_of(tree):
        piece = waiting.pop()
        if word == WHOLE:
            found.append((piece, number))
        else:
            check_cut(piece, word, number)
            waiting.append(other_piece(piece, word, number))
            waiting.append(first_piece(piece, word, number))
    return found


def pieces(tree, width, height):
    check_sides(width, height)
    return sorted(cut_out(tree, width, height), key=lambda piece: piece[0])


def panel_of(tree, width, height):
    return Panel(width, height, [rectangle for rectangle, mark in pieces(tree, width, height)])
