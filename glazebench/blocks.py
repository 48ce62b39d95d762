"""Blocks of a panel: rectangles of whole panes, and the lines that go through them."""

from glazebench.errors import NoBlock
from glazebench.panels import inside, is_rectangle

# The places of these sides in a rectangle; the side across lies two places on.
TOP = 0
LEFT = 1


def apart(one, other):
    beside = one[3] <= other[1] or other[3] <= one[1]
    return beside or one[2] <= other[0] or other[2] <= one[0]


def is_block(panel, block):
    if not is_rectangle(block) or not inside(block, (0, 0, panel.height, panel.width)):
        return False
    return all([inside(pane, block) or apart(pane, block) for pane in panel.panes()])


def check_block(panel, block):
    if not is_block(panel, block):
        raise NoBlock(block)


def panes_in(panel, block):
    check_block(panel, block)
    return [pane for pane in panel.panes() if inside(pane, block)]


def line_breaks(line, pane, side):
    return pane[side] < line < pane[side + 2]


def goes_through(line, panes, side):
    return not any([line_breaks(line, pane, side) for pane in panes])


def lines_through(block, panes, side):
    return [line for line in range(block[side] + 1, block[side + 2]) if goes_through(line, panes, side)]


def through(panel, block):
    panes = panes_in(panel, block)
    return (lines_through(block, panes, LEFT), lines_through(block, panes, TOP))
