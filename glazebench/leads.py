"""Leads of a block: the runs between unlike panes, and four of them that turn about one another.

A lead is a tuple (word, line, begin, end): the word level or upright, then from where to where it runs along the
line, from left to right or from top to bottom.
"""

from glazebench.blocks import check_block

LEVEL = "level"
UPRIGHT = "upright"


def runs(places, stops):
    found = []
    for place in places:
        if found and found[-1][1] == place and place not in stops:
            found[-1] = (found[-1][0], place + 1)
        else:
            found.append((place, place + 1))
    return found


def columns_parted(panel, block, line):
    return [column for column in range(block[1], block[3])
            if panel.pane_at(line - 1, column) != panel.pane_at(line, column)]


def rows_parted(panel, block, line):
    return [row for row in range(block[0], block[2])
            if panel.pane_at(row, line - 1) != panel.pane_at(row, line)]


def level_leads(panel, block):
    found = []
    for line in range(block[0] + 1, block[2]):
        for begin, end in runs(columns_parted(panel, block, line), []):
            found.append((LEVEL, line, begin, end))
    return found


def upright_leads(panel, block, levels):
    found = []
    for line in range(block[1] + 1, block[3]):
        stops = [row for word, row, left, right in levels if left < line < right]
        for begin, end in runs(rows_parted(panel, block, line), stops):
            found.append((UPRIGHT, line, begin, end))
    return found


def leads(panel, block):
    check_block(panel, block)
    levels = level_leads(panel, block)
    return levels + upright_leads(panel, block, levels)


def lies_on(lead, other):
    if lead[0] == other[0]:
        return False
    # At right angles they meet, if at all, only where their two lines cross.
    return other[1] in (lead[2], lead[3]) and other[2] < lead[1] < other[3]


def turn(some):
    if len(some) != 4:
        return False
    return all([lies_on(some[place - 1], some[place]) for place in range(4)])
