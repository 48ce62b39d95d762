"""What a sheet is worth at most when it is cut into pieces of some kinds, and how to cut it for that.

A choice is a tuple (worth, entry): what a piece is worth at most, and the entry (word, number) that begins a tree for
it. Choices are kept by keys: here by sizes, of which one choice does for all pieces of that size; where not all pieces
of one size are worth the same, by the pieces themselves.
"""

from glazebench.cuts import LEVEL, UPRIGHT, WHOLE, entries_by, first_piece, other_piece, pieces, tree_from
from glazebench.errors import NoKind, TooMany, Unfit
from glazebench.panels import check_sides, is_side, is_whole, size_of

MOST_KINDS = 8
GREATEST_WORTH = 1000000000


def is_kind(thing):
    if not isinstance(thing, tuple) or len(thing) != 4:
        return False
    if not is_side(thing[0]) or not is_side(thing[1]):
        return False
    return is_whole(thing[2]) and 0 <= thing[2] <= GREATEST_WORTH and isinstance(thing[3], bool)


def check_kinds(kinds):
    if len(kinds) > MOST_KINDS:
        raise TooMany(len(kinds))
    for place, kind in enumerate(kinds):
        if not is_kind(kind):
            raise NoKind(place)


def has_size(size, width, height, turns):
    return size == (width, height) or (turns and size == (height, width))


def is_of_kind(piece, kind):
    return has_size(size_of(piece), kind[0], kind[1], kind[3])


def choice_uncut(piece, kinds):
    choice = (0, (WHOLE, None))
    for mark, kind in enumerate(kinds):
        if is_of_kind(piece, kind) and kind[2] > choice[0]:
            choice = (kind[2], (WHOLE, mark))
    return choice


def cuts_within(piece):
    size = size_of(piece)
    return [(UPRIGHT, at) for at in range(1, size[0])] + [(LEVEL, at) for at in range(1, size[1])]


def best_choice(piece, uncut, choices, key):
    """The best choice for a piece of which this is the best without a cut; those of all its parts are there."""
    choice = uncut
    for word, at in cuts_within(piece):
        first = choices[key(first_piece(piece, word, at))]
        other = choices[key(other_piece(piece, word, at))]
        if first[0] + other[0] > choice[0]:
            choice = (first[0] + other[0], (word, at))
    return choice


def tree_by(choices, sheet, key):
    return tree_from(entries_by(sheet, lambda piece: choices[key(piece)][1]))


def worths_in(choices):
    found = {}
    for key, choice in choices.items():
        found[key] = choice[0]
    return found


def choices_by_size(width, height, kinds):
    check_sides(width, height)
    check_kinds(kinds)
    choices = {}
    for wide in range(1, width + 1):
        for high in range(1, height + 1):
            piece = (0, 0, high, wide)
            choices[(wide, high)] = best_choice(piece, choice_uncut(piece, kinds), choices, size_of)
    return choices


def worths(width, height, kinds):
    return worths_in(choices_by_size(width, height, kinds))


def best(width, height, kinds):
    return tree_by(choices_by_size(width, height, kinds), (0, 0, height, width), size_of)


def is_laid(piece, mark, kinds):
    return is_whole(mark) and 0 <= mark < len(kinds) and is_of_kind(piece, kinds[mark])


def worth_of(tree, width, height, kinds):
    check_sides(width, height)
    check_kinds(kinds)
    marked = [piece for piece in pieces(tree, width, height) if piece[1] is not None]
    for rectangle, mark in marked:
        if not is_laid(rectangle, mark, kinds):
            raise Unfit((rectangle, mark))
    return sum([kinds[mark][2] for rectangle, mark in marked])
