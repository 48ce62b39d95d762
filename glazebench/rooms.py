"""The tree of a panel; or a room of it, and why no line goes through this room."""

from glazebench.blocks import LEFT, TOP, line_breaks, lines_through, panes_in
from glazebench.cuts import LEVEL, UPRIGHT, WHOLE, entries_by, tree_from
from glazebench.errors import Stuck
from glazebench.leads import leads, lies_on, turn
from glazebench.panels import inside

# Stands in a list of entries where a block can't be cut; its number is this block.
ROOM = "room"


def entry_for(block, some):
    if len(some) == 1:
        return (WHOLE, some[0][1])
    panes = [pane for pane, mark in some]
    uprights = lines_through(block, panes, LEFT)
    if uprights:
        return (UPRIGHT, uprights[0] - block[LEFT])
    levels = lines_through(block, panes, TOP)
    if levels:
        return (LEVEL, levels[0] - block[TOP])
    return (ROOM, block)


def cut_up(sheet, some):
    """The entries of the tree that leaves just these pieces, tuples (rectangle, mark), of the sheet.

    They are handed in as a list and not as a panel, since a tree may have more of them than a panel may.
    """
    return entries_by(sheet, lambda block: entry_for(block, [piece for piece in some if inside(piece[0], block)]))


def pane_broken(line, panes, side):
    return [pane for pane in panes if line_breaks(line, pane, side)][0]


def breaks_of(panel, room):
    panes = panes_in(panel, room)
    found = []
    for word, side in ((UPRIGHT, LEFT), (LEVEL, TOP)):
        for line in range(room[side] + 1, room[side + 2]):
            found.append((word, line, pane_broken(line, panes, side)))
    return found


def one_longer(rows, some):
    found = []
    for row in rows:
        for lead in some:
            if lies_on(row[-1], lead):
                found.append(row + [lead])
    return found


def four_that_turn(some):
    # A lead has two ends, and an end lies on the inside of at most one other lead: the rows stay few.
    rows = [[lead] for lead in some]
    for more in range(3):
        rows = one_longer(rows, some)
    return [row for row in rows if turn(row)][0]


def tree_of(panel):
    entries = cut_up((0, 0, panel.height, panel.width), [(pane, None) for pane in panel.panes()])
    for word, number in entries:
        if word == ROOM:
            raise Stuck(number, breaks_of(panel, number), four_that_turn(leads(panel, number)))
    return tree_from(entries)
