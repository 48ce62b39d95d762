"""The panels of a size that have a tree, numbered from 0.

A panel falls apart, at all its upright through lines, into parts that no upright line goes through; each of these, at
all its level through lines, into parts that no level line goes through; and so on by turns, down to whole panes. Each
part is looked at turned, so that all of them are of one sort, here called strips: panels that no level line goes
through. A row of strips is a list of panels side by side, each of them told as such a turned strip.

A set of lines is a whole number, the sum of 1, 2, 4 for the lines 1, 2, 3. What is called strips below is a dict from
sizes (length, thick) to dicts from sets of lines to numbers: how many strips of this width and height there are that
just these upright lines go through.
"""

from glazebench.blocks import LEFT, lines_through
from glazebench.counts import check_counted, count
from glazebench.errors import NoNumber
from glazebench.panels import Panel, is_whole
from glazebench.rooms import tree_of


def all_lines(length):
    return (1 << (length - 1)) - 1


def parts_between(lines, length):
    parts = [1]
    for line in range(1, length):
        if lines & (1 << (line - 1)):
            parts.append(1)
        else:
            parts[-1] += 1
    return parts


def in_common(by_lines, strips_by_lines):
    found = {}
    for lines, many in by_lines.items():
        for more, times in strips_by_lines.items():
            both = lines & more
            found[both] = found.get(both, 0) + many * times
    return found


def rows_by_lines(strips, parts, thick):
    """From sets of lines to how many rows, a strip for each part, have just these lines in common."""
    found = {all_lines(thick): 1}
    for part in parts:
        found = in_common(found, strips[(thick, part)])
    return found


def rows_without(by_lines, lines):
    return sum([many for others, many in by_lines.items() if others & lines == 0])


def strips_of_size(strips, length, thick):
    # A strip without any line is one whole pane: it has a tree, but no cut to begin it with.
    found = {0: 1}
    for lines in range(1, all_lines(length) + 1):
        by_lines = rows_by_lines(strips, parts_between(lines, length), thick)
        found[lines] = rows_without(by_lines, all_lines(thick))
    return found


def all_strips(longest):
    sizes = []
    for length in range(1, longest + 1):
        sizes.extend([(length, thick) for thick in range(1, longest + 1)])
    strips = {}
    # The parts of a strip are as long as it is thick, and thinner than it is long: their sum is less.
    for length, thick in sorted(sizes, key=sum):
        strips[(length, thick)] = strips_of_size(strips, length, thick)
    return strips


def rows_before(firsts, later, common, lines):
    """How many rows begin with a strip of a lesser set of lines than this, and leave no line in common."""
    return sum([firsts[less] * rows_without(later, common & less) for less in range(lines)])


def row_by(strips, parts, thick, common, number):
    """The panes of the row of this number, of all rows that none of the common lines goes through as a whole."""
    panes = []
    begin = 0
    for place, part in enumerate(parts):
        firsts = strips[(thick, part)]
        later = rows_by_lines(strips, parts[place + 1:], thick)
        lines = 0
        while rows_before(firsts, later, common, lines + 1) <= number:
            lines += 1
        number -= rows_before(firsts, later, common, lines)
        common = common & lines
        rest = rows_without(later, common)
        strip = strip_by(strips, (thick, part), lines, number // rest)
        panes.extend([(left, begin + top, right, begin + bottom) for top, left, bottom, right in strip])
        number = number % rest
        begin += part
    return panes


def strip_by(strips, size, lines, number):
    if lines == 0:
        return [(0, 0, size[1], size[0])]
    return row_by(strips, parts_between(lines, size[0]), size[1], all_lines(size[1]), number)


def panes_by(strips, width, height, number):
    lines = 0
    many = sum(rows_by_lines(strips, [width], height).values())
    while many <= number:
        number -= many
        lines += 1
        many = sum(rows_by_lines(strips, parts_between(lines, width), height).values())
    return row_by(strips, parts_between(lines, width), height, 0, number)


def panel_by(width, height, number):
    many = count(width, height)
    if not is_whole(number) or not 0 <= number < many:
        raise NoNumber(number)
    return Panel(width, height, panes_by(all_strips(max(width, height)), width, height, number))


def lines_of(panes, length, thick):
    return sum([1 << (line - 1) for line in lines_through((0, 0, thick, length), panes, LEFT)])


def strip_at(panes, begin, part):
    inner = [pane for pane in panes if begin <= pane[LEFT] < begin + part]
    return [(left - begin, top, right - begin, bottom) for top, left, bottom, right in inner]


def number_in_rows(strips, panes, parts, thick, common):
    number = 0
    begin = 0
    for place, part in enumerate(parts):
        later = rows_by_lines(strips, parts[place + 1:], thick)
        strip = strip_at(panes, begin, part)
        lines = lines_of(strip, thick, part)
        number += rows_before(strips[(thick, part)], later, common, lines)
        common = common & lines
        number += number_in_strips(strips, strip, (thick, part), lines) * rows_without(later, common)
        begin += part
    return number


def number_in_strips(strips, panes, size, lines):
    if lines == 0:
        return 0
    return number_in_rows(strips, panes, parts_between(lines, size[0]), size[1], all_lines(size[1]))


def number_of(panel):
    check_counted(panel.width, panel.height)
    # Only for its refusal: what is told of strips holds of panels that have a tree.
    tree_of(panel)
    strips = all_strips(max(panel.width, panel.height))
    lines = lines_of(panel.panes(), panel.width, panel.height)
    number = number_in_rows(strips, panel.panes(), parts_between(lines, panel.width), panel.height, 0)
    for less in range(lines):
        number += sum(rows_by_lines(strips, parts_between(less, panel.width), panel.height).values())
    return number
