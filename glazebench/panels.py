"""Sides, squares, rectangles, and panels of panes.

A square is a tuple (row, column). A rectangle is a tuple (top, left, bottom, right):
the squares of rows from top to bottom - 1, of columns from left to right - 1.
"""

from glazebench.errors import Bare, NoPane, NoSide, Overlap, TooMany

LONGEST_SIDE = 12
MOST_PANES = 52


def is_whole(thing):
    # Python counts True and False among its ints; here they are no numbers.
    return isinstance(thing, int) and not isinstance(thing, bool)


def is_side(thing):
    return is_whole(thing) and 1 <= thing <= LONGEST_SIDE


def is_rectangle(thing):
    if not isinstance(thing, tuple) or len(thing) != 4:
        return False
    if not all([is_whole(part) for part in thing]):
        return False
    return 0 <= thing[0] < thing[2] and 0 <= thing[1] < thing[3]


def inside(one, other):
    starts_within = other[0] <= one[0] and other[1] <= one[1]
    return starts_within and one[2] <= other[2] and one[3] <= other[3]


def squares_of(rectangle):
    squares = []
    for row in range(rectangle[0], rectangle[2]):
        for column in range(rectangle[1], rectangle[3]):
            squares.append((row, column))
    return squares


def size_of(rectangle):
    return (rectangle[3] - rectangle[1], rectangle[2] - rectangle[0])


def area_of(rectangle):
    return (rectangle[2] - rectangle[0]) * (rectangle[3] - rectangle[1])


def check_sides(width, height):
    for side in (width, height):
        if not is_side(side):
            raise NoSide(side)


def check_panes(panes, sheet):
    if len(panes) > MOST_PANES:
        raise TooMany(len(panes))
    for place, pane in enumerate(panes):
        if not is_rectangle(pane) or not inside(pane, sheet):
            raise NoPane(place)


def panes_by_square(panes):
    by_square = {}
    for place, pane in enumerate(panes):
        for square in squares_of(pane):
            if square in by_square:
                raise Overlap(place)
            by_square[square] = pane
    return by_square


def check_covered(by_square, sheet):
    for square in squares_of(sheet):
        if square not in by_square:
            raise Bare(square)


class Panel:
    def __init__(self, width, height, panes):
        check_sides(width, height)
        sheet = (0, 0, height, width)
        check_panes(panes, sheet)
        # A pane handed in may be of a class under tuple, with more to it; a panel tells plain tuples.
        own_panes = [tuple(pane) for pane in panes]
        by_square = panes_by_square(own_panes)
        check_covered(by_square, sheet)
        self.width = width
        self.height = height
        self.sorted_panes = sorted(own_panes)
        self.by_square = by_square

    def panes(self):
        return list(self.sorted_panes)

    def pane_at(self, row, column):
        return self.by_square[(row, column)]

    def turned(self):
        panes = [(left, top, right, bottom) for top, left, bottom, right in self.sorted_panes]
        return Panel(self.height, self.width, panes)
