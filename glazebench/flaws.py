"""What a sheet with flawed squares is worth at most, and how to cut it for that."""

from glazebench.errors import NoFlaw, NoSide, TooMany
from glazebench.panels import area_of, is_side, is_whole
from glazebench.worths import best_choice, check_kinds, choice_uncut, tree_by, worths_in

LONGEST_FLAWED = 7
MOST_FLAWS = 49


def check_flawed_sides(width, height):
    for side in (width, height):
        if not is_side(side) or side > LONGEST_FLAWED:
            raise NoSide(side)


def is_square_of(thing, width, height):
    if not isinstance(thing, tuple) or len(thing) != 2:
        return False
    if not is_whole(thing[0]) or not is_whole(thing[1]):
        return False
    return 0 <= thing[0] < height and 0 <= thing[1] < width


def check_flaws(flaws, width, height):
    if len(flaws) > MOST_FLAWS:
        raise TooMany(len(flaws))
    for place, flaw in enumerate(flaws):
        if not is_square_of(flaw, width, height):
            raise NoFlaw(place)


def itself(piece):
    return piece


def runs_within(length):
    runs = []
    for begin in range(length):
        runs.extend([(begin, end) for end in range(begin + 1, length + 1)])
    return runs


def pieces_within(width, height):
    found = []
    for top, bottom in runs_within(height):
        found.extend([(top, left, bottom, right) for left, right in runs_within(width)])
    return found


def lies_in(square, piece):
    return piece[0] <= square[0] < piece[2] and piece[1] <= square[1] < piece[3]


def flawed_uncut(piece, kinds, flaws):
    if any([lies_in(flaw, piece) for flaw in flaws]):
        # No kind may stand there, as where there are none.
        return choice_uncut(piece, [])
    return choice_uncut(piece, kinds)


def choices_by_piece(width, height, kinds, flaws):
    check_flawed_sides(width, height)
    check_kinds(kinds)
    check_flaws(flaws, width, height)
    choices = {}
    # By area, since the parts of a piece are to be there ahead of it.
    for piece in sorted(pieces_within(width, height), key=area_of):
        choices[piece] = best_choice(piece, flawed_uncut(piece, kinds, flaws), choices, itself)
    return choices


def flawed_worths(width, height, kinds, flaws):
    return worths_in(choices_by_piece(width, height, kinds, flaws))


def flawed_best(width, height, kinds, flaws):
    return tree_by(choices_by_piece(width, height, kinds, flaws), (0, 0, height, width), itself)
