"""Moves: a cut or two made otherwise, with the same pieces, and rows of moves from one tree to another one."""

from glazebench.cuts import WHOLE, Whole, cut_from, entries_of, kind_of, tree_from, turned_word
from glazebench.errors import NoMove, Unlike
from glazebench.forms import alike
from glazebench.panels import is_whole

LEAN = "lean"
BACK = "back"
CROSS = "cross"


def leaned(cut):
    kind = kind_of(cut)
    below = cut.first
    if kind_of(below) != kind:
        return None
    return cut_from(kind, below.at, below.first, cut_from(kind, cut.at - below.at, below.other, cut.other))


def leaned_back(cut):
    kind = kind_of(cut)
    below = cut.other
    if kind_of(below) != kind:
        return None
    return cut_from(kind, cut.at + below.at, cut_from(kind, cut.at, cut.first, below.first), below.other)


def crossed(cut):
    kind = kind_of(cut)
    across = turned_word(kind)
    one = cut.first
    two = cut.other
    if kind_of(one) != across or kind_of(two) != across or one.at != two.at:
        return None
    ahead = cut_from(kind, cut.at, one.first, two.first)
    behind = cut_from(kind, cut.at, one.other, two.other)
    return cut_from(across, one.at, ahead, behind)


def changed(cut, word):
    # Anything may stand for the word, also what can't be compared with a text.
    if not isinstance(word, str):
        return None
    if word == LEAN:
        return leaned(cut)
    if word == BACK:
        return leaned_back(cut)
    if word == CROSS:
        return crossed(cut)
    return None


def is_step(thing):
    return is_whole(thing) and thing in (0, 1)


def way_along(tree, steps):
    """The cuts from the tree's own one to the one at the place."""
    if not isinstance(steps, tuple):
        raise NoMove(steps)
    way = [tree]
    for step in steps:
        if isinstance(way[-1], Whole) or not is_step(step):
            raise NoMove(steps)
        way.append(way[-1].first if step == 0 else way[-1].other)
    if isinstance(way[-1], Whole):
        raise NoMove(steps)
    return way


def with_part(cut, step, part):
    if step == 0:
        return cut_from(kind_of(cut), cut.at, part, cut.other)
    return cut_from(kind_of(cut), cut.at, cut.first, part)


def moved(tree, move):
    steps = move[0]
    way = way_along(tree, steps)
    part = changed(way[-1], move[1])
    if part is None:
        raise NoMove(steps)
    for cut, step in reversed(list(zip(way, steps))):
        part = with_part(cut, step, part)
    # Built anew, since so far it has parts in common with the tree that was handed in.
    return tree_from(entries_of(part))


def moves_up(tree, word, at, steps):
    """The moves by which a line that goes through all of the tree becomes the tree's own cut."""
    if kind_of(tree) != word:
        first = moves_up(tree.first, word, at, steps + (0,))
        return first + moves_up(tree.other, word, at, steps + (1,)) + [(steps, CROSS)]
    if at < tree.at:
        return moves_up(tree.first, word, at, steps + (0,)) + [(steps, LEAN)]
    if at > tree.at:
        return moves_up(tree.other, word, at - tree.at, steps + (1,)) + [(steps, BACK)]
    return []


def ahead_of(tree, word, at):
    """The first part, once this line is the tree's own cut."""
    if kind_of(tree) != word:
        first = ahead_of(tree.first, word, at)
        return cut_from(kind_of(tree), tree.at, first, ahead_of(tree.other, word, at))
    if at < tree.at:
        return ahead_of(tree.first, word, at)
    if at > tree.at:
        return cut_from(word, tree.at, tree.first, ahead_of(tree.other, word, at - tree.at))
    return tree.first


def behind_of(tree, word, at):
    """The other part, once this line is the tree's own cut."""
    if kind_of(tree) != word:
        first = behind_of(tree.first, word, at)
        return cut_from(kind_of(tree), tree.at, first, behind_of(tree.other, word, at))
    if at < tree.at:
        return cut_from(word, tree.at - at, behind_of(tree.first, word, at), tree.other)
    if at > tree.at:
        return behind_of(tree.other, word, at - tree.at)
    return tree.other


def moves_to(tree, other, steps):
    """The moves from a part, at this place, to another one with the same pieces.

    To bring a line up takes one move at most for each cut, so fewer than the tree has leaves; and each part has
    fewer leaves than the tree. So n leaves ask for at most n * (n - 1) // 2 moves.
    """
    word = kind_of(other)
    if word == WHOLE:
        return []
    at = other.at
    # All pieces are the same, so the other tree's own cut breaks none of this one's.
    row = moves_up(tree, word, at, steps)
    row = row + moves_to(ahead_of(tree, word, at), other.first, steps + (0,))
    return row + moves_to(behind_of(tree, word, at), other.other, steps + (1,))


def led(tree, other, width, height):
    if not alike(tree, other, width, height):
        raise Unlike()
    return moves_to(tree, other, ())
