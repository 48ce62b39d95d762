"""The least sizes out of which sets of wants can be cut, and the trees for that.

What is called heights below is a dict from sets of wants to lists: at the place w the least height of a sheet, w wide,
out of which the set can be cut; TOO_HIGH where no side will do, so at the place 0 too. Glass more than the least does
no harm, since it is cut off; so nothing but these heights needs to be known of a set.
"""

from glazebench.cuts import LEVEL, UPRIGHT, Level, Upright, Whole, cut_from
from glazebench.errors import NoNumber, NoSize, NoWant, TooMany
from glazebench.panels import LONGEST_SIDE, check_sides, is_side, is_whole

MOST_WANTS = 6
# One more than the longest side.
TOO_HIGH = 13


def is_want(thing):
    if not isinstance(thing, tuple) or len(thing) != 3:
        return False
    return is_side(thing[0]) and is_side(thing[1]) and isinstance(thing[2], bool)


def check_wants(wants):
    if len(wants) > MOST_WANTS:
        raise TooMany(len(wants))
    for place, want in enumerate(wants):
        if not is_want(want):
            raise NoWant(place)


def ways_to_lie(want):
    """The sizes (width, height) that the pane of a want may have in a sheet."""
    if want[2]:
        return [(want[0], want[1]), (want[1], want[0])]
    return [(want[0], want[1])]


def ways_held(want, width, height):
    """Those of the ways to lie that a piece of this size has room for; as it is ahead of turned."""
    return [size for size in ways_to_lie(want) if size[0] <= width and size[1] <= height]


def is_alone(bits):
    return bits & (bits - 1) == 0


def number_alone(bits):
    return bits.bit_length() - 1


def all_parts(bits):
    return [part for part in range(1, bits + 1) if part & bits == part]


def parts_with_least(bits):
    """All parts of a set that have its least want, but the whole set: one part for each way to part it in two."""
    least = bits & -bits
    return [part for part in all_parts(bits) if part & least and part != bits]


def cuts_to(heights, bits, width):
    """All first cuts that part the set in two, as tuples (height, word, at, part).

    The height is the least one of a sheet, this wide, for which the cut will do. The part lies in the first piece.
    """
    found = []
    for part in parts_with_least(bits):
        one = heights[part]
        other = heights[bits - part]
        found.extend([(max(one[at], other[width - at]), UPRIGHT, at, part) for at in range(1, width)])
        found.append((one[width] + other[width], LEVEL, one[width], part))
    return found


def least_height(wants, heights, bits, width):
    if is_alone(bits):
        ways = ways_to_lie(wants[number_alone(bits)])
        return min([high for wide, high in ways if wide <= width], default=TOO_HIGH)
    return min(TOO_HIGH, min([cut[0] for cut in cuts_to(heights, bits, width)]))


def heights_of_parts(wants, bits):
    heights = {}
    for part in all_parts(bits):
        least = [least_height(wants, heights, part, width) for width in range(1, LONGEST_SIDE + 1)]
        heights[part] = [TOO_HIGH] + least
    return heights


def stair(least):
    return [(width, least[width]) for width in range(1, LONGEST_SIDE + 1) if least[width] < least[width - 1]]


def all_bits(wants):
    return (1 << len(wants)) - 1


def stairs(wants):
    check_wants(wants)
    found = {}
    for bits, least in heights_of_parts(wants, all_bits(wants)).items():
        found[bits] = stair(least)
    return found


def cut_off(mark, size, width, height):
    """A tree that cuts a marked piece of this size off the upper left corner."""
    tree = Whole(mark)
    if size[1] < height:
        tree = Level(size[1], tree, Whole())
    if size[0] < width:
        tree = Upright(size[0], tree, Whole())
    return tree


def tree_alone(wants, number, width, height):
    held = ways_held(wants[number], width, height)
    return cut_off(number, held[0], width, height)


def tree_for(wants, heights, bits, width, height):
    if is_alone(bits):
        return tree_alone(wants, number_alone(bits), width, height)
    cut = min(cuts_to(heights, bits, width))
    word = cut[1]
    at = cut[2]
    part = cut[3]
    if word == UPRIGHT:
        first = tree_for(wants, heights, part, at, height)
        other = tree_for(wants, heights, bits - part, width - at, height)
    else:
        first = tree_for(wants, heights, part, width, at)
        other = tree_for(wants, heights, bits - part, width, height - at)
    return cut_from(word, at, first, other)


def stair_tree(wants, bits, width, height):
    check_wants(wants)
    check_sides(width, height)
    if not is_whole(bits) or not 1 <= bits <= all_bits(wants):
        raise NoNumber(bits)
    heights = heights_of_parts(wants, bits)
    if heights[bits][width] > height:
        raise NoSize((width, height))
    return tree_for(wants, heights, bits, width, height)
