"""How many panels of a size have a tree."""

from glazebench.errors import NoSide
from glazebench.panels import is_whole

LONGEST_COUNTED = 4


def check_counted(width, height):
    for side in (width, height):
        if not is_whole(side) or not 1 <= side <= LONGEST_COUNTED:
            raise NoSide(side)


def ways_to_part(length):
    """All lists of lengths that together make this one, in their order: one for each set of lines within it."""
    ways = [[1]]
    for step in range(1, length):
        longer = [way[:-1] + [way[-1] + 1] for way in ways]
        ways = longer + [way + [1] for way in ways]
    return ways


def count_of_grid(counts, columns, rows):
    """How many panels go through at all lines of this grid: each of its fields is any panel with a tree."""
    product = 1
    for width in columns:
        for height in rows:
            product = product * counts[(width, height)]
    return product


def count_by_smaller(counts, width, height):
    # One pane alone has a tree and no through line; all other panels with a tree have through lines. The panels that
    # have at least one are summed up over all sets of lines: those with an odd number of lines added, those with an
    # even number taken away, so that a panel counts once, however many lines go through it.
    total = 1
    for columns in ways_to_part(width):
        for rows in ways_to_part(height):
            lines = len(columns) + len(rows) - 2
            if lines % 2 == 1:
                total += count_of_grid(counts, columns, rows)
            elif lines > 0:
                total -= count_of_grid(counts, columns, rows)
    return total


def count(width, height):
    check_counted(width, height)
    counts = {}
    for wide in range(1, width + 1):
        for high in range(1, height + 1):
            counts[(wide, high)] = count_by_smaller(counts, wide, high)
    return counts[(width, height)]
