"""Plans: orders of wants, cut out of the least glass.

What is called cheapest below is a dict from those sets of wants that can be cut out of one sheet to tuples (area,
number): the least area of such a sheet, and its number in the list of sheets.
"""

from glazebench.errors import NoPlan, NoSheet, TooMany
from glazebench.panels import is_side
from glazebench.stairs import all_bits, all_parts, check_wants, heights_of_parts, parts_with_least, tree_for

MOST_SHEETS = 4


def is_sheet(thing):
    if not isinstance(thing, tuple) or len(thing) != 2:
        return False
    return is_side(thing[0]) and is_side(thing[1])


def check_sheets(sheets):
    if not 1 <= len(sheets) <= MOST_SHEETS:
        raise TooMany(len(sheets))
    for place, sheet in enumerate(sheets):
        if not is_sheet(sheet):
            raise NoSheet(place)


def heights_for(wants, sheets):
    check_wants(wants)
    check_sheets(sheets)
    return heights_of_parts(wants, all_bits(wants))


def cheapest_sheets(heights, sheets):
    cheapest = {}
    for bits, least in heights.items():
        large = [(size[0] * size[1], number) for number, size in enumerate(sheets) if least[size[0]] <= size[1]]
        if large:
            cheapest[bits] = min(large)
    return cheapest


def first_sheets(cheapest, glass, bits):
    """All ways to cut the set's least want out of one sheet with others of the set, as tuples (glass, part).

    The part is cut out of this sheet, the others out of further ones; the glass is the least one for all of the set.
    """
    parts = [part for part in parts_with_least(bits) + [bits] if part in cheapest]
    return [(cheapest[part][0] + glass[bits - part], part) for part in parts if glass[bits - part] is not None]


def glass_by_set(cheapest, bits):
    glass = {0: 0}
    for part in all_parts(bits):
        ways = first_sheets(cheapest, glass, part)
        glass[part] = min(ways)[0] if ways else None
    return glass


def least_glass(wants, sheets):
    heights = heights_for(wants, sheets)
    return glass_by_set(cheapest_sheets(heights, sheets), all_bits(wants))


def check_served(wants, cheapest):
    # Where each want can be cut out of a sheet of its own, there is a plan.
    for number in range(len(wants)):
        if 1 << number not in cheapest:
            raise NoPlan(number)


def plan(wants, sheets):
    heights = heights_for(wants, sheets)
    cheapest = cheapest_sheets(heights, sheets)
    check_served(wants, cheapest)
    bits = all_bits(wants)
    glass = glass_by_set(cheapest, bits)
    told = []
    while bits > 0:
        # Each part has the least of the wants that are left: so the list is sorted by the least marks.
        part = min(first_sheets(cheapest, glass, bits))[1]
        number = cheapest[part][1]
        size = sheets[number]
        told.append((number, tree_for(wants, heights, part, size[0], size[1])))
        bits -= part
    return told
