"""Blocks of a panel, their panes and through lines [2, 10, the interface]."""

import itertools
import unittest

from glazebench.blocks import is_block, panes_in, through
from glazebench.drawings import read_drawing
from glazebench.errors import GlassError, NoBlock
from glazebench.leads import leads
from glazebench.panels import Panel, is_rectangle


class Touchy:
    """A thing that fails wherever it is compared, counted or written out."""

    def fail(self, *things):
        raise RuntimeError("touched")

    __eq__ = __lt__ = __le__ = __gt__ = __ge__ = fail
    __len__ = __iter__ = __getitem__ = __int__ = __index__ = __bool__ = __repr__ = fail
    __hash__ = None


ENDLESS = []
ENDLESS.append(ENDLESS)

NO_RECTANGLES = [
    None, True, 0, 3, 0.5, "", "0011", b"", [], [0, 0, 1, 1], (), (0, 0, 1), (0, 0, 1, 1, 1), {}, {0: 0}, set(),
    range(4), object(), int, len, Touchy(), ENDLESS, (0, 0, 0, 1), (0, 0, 1, 0), (1, 0, 1, 1), (2, 2, 1, 1),
    (-1, 0, 1, 1), (0, -1, 1, 1), (False, 0, 1, 1), (0, 0, True, 1), (0, 0, True, True), (0, 0, 1.0, 1), ("0", 0, 1, 1),
    (None, None, None, None), (0, 0, 1, Touchy()), ((0, 0), (1, 1)),
]

# A wheel of five panes about its middle, four columns wide and three rows high.
WHEEL = "aaab/cddb/ceee"


def squares(pane):
    return {(row, column) for row in range(pane[0], pane[2]) for column in range(pane[1], pane[3])}


def all_panels(width, height):
    """All lists of panes of this size, each pane put where the first bare square is."""
    whole = sorted(squares((0, 0, height, width)))

    def filled(panes, taken):
        bare = [square for square in whole if square not in taken]
        if not bare:
            return [panes]
        found = []
        row, column = bare[0]
        for bottom, right in itertools.product(range(row + 1, height + 1), range(column + 1, width + 1)):
            pane = (row, column, bottom, right)
            if not squares(pane) & taken:
                found += filled(panes + [pane], taken | squares(pane))
        return found

    return filled([], frozenset())


def block_due(width, height, panes, block):
    """Point 10 told once more, square by square."""
    own = squares(block)
    if own - squares((0, 0, height, width)):
        return False
    return all(squares(pane) <= own or not squares(pane) & own for pane in panes)


def line_goes_through(panes, axis, line):
    """Whether no pane has squares on both sides; the axis is 0 for level lines, 1 for upright ones."""
    for pane in panes:
        near = [square for square in squares(pane) if square[axis] < line]
        if near and len(near) < len(squares(pane)):
            return False
    return True


def through_due(panes, block):
    own = [pane for pane in panes if squares(pane) <= squares(block)]
    top, left, bottom, right = block
    uprights = [line for line in range(left + 1, right) if line_goes_through(own, 1, line)]
    levels = [line for line in range(top + 1, bottom) if line_goes_through(own, 0, line)]
    return uprights, levels


class TestEverySmallPanel(unittest.TestCase):
    def test_there_are_as_many_as_known(self):
        sizes = ((1, 1), (2, 1), (2, 2), (3, 2), (3, 3))
        self.assertEqual([len(all_panels(*size)) for size in sizes], [1, 2, 8, 34, 322])

    def test_blocks_panes_and_through_lines(self):
        for width, height in ((1, 1), (2, 2), (3, 1), (3, 2), (2, 3), (3, 3)):
            rectangles = [thing for thing in itertools.product(range(5), repeat=4) if is_rectangle(thing)]
            for panes in all_panels(width, height):
                panel = Panel(width, height, panes)
                for block in rectangles:
                    self.check_block(panel, block)

    def check_block(self, panel, block):
        panes = panel.panes()
        due = block_due(panel.width, panel.height, panes, block)
        self.assertIs(is_block(panel, block), due, (panes, block))
        if due:
            self.assertEqual(panes_in(panel, block), [pane for pane in panes if squares(pane) <= squares(block)])
            self.assertEqual(through(panel, block), through_due(panes, block), (panes, block))
        else:
            for asked in (panes_in, through, leads):
                with self.assertRaises(NoBlock) as caught:
                    asked(panel, block)
                self.assertIs(caught.exception.block, block)


class TestIsBlock(unittest.TestCase):
    def test_the_whole_panel_and_each_pane(self):
        panel = read_drawing(WHEEL)
        self.assertIs(is_block(panel, (0, 0, 3, 4)), True)
        for pane in panel.panes():
            self.assertIs(is_block(panel=panel, block=pane), True)

    def test_rectangles_that_cut_a_pane(self):
        panel = read_drawing(WHEEL)
        for block in ((0, 0, 1, 2), (0, 0, 1, 4), (0, 0, 2, 4), (1, 1, 2, 2), (1, 0, 3, 4), (0, 0, 3, 3), (1, 1, 2, 4)):
            self.assertIs(is_block(panel, block), False, block)

    def test_a_pane_that_sticks_out_on_each_side(self):
        panel = read_drawing("abbbc/dddde")
        for block in ((0, 0, 1, 2), (0, 2, 1, 4), (0, 3, 1, 5), (0, 0, 1, 5), (1, 0, 2, 3), (0, 0, 2, 3)):
            self.assertIs(is_block(panel, block), block == (0, 0, 1, 5), block)
            turned = (block[1], block[0], block[3], block[2])
            self.assertIs(is_block(panel.turned(), turned), block == (0, 0, 1, 5), block)

    def test_blocks_of_several_panes(self):
        panel = read_drawing("abc/adc/aee")
        for block in ((0, 1, 2, 2), (0, 1, 2, 3), (0, 1, 3, 3)):
            self.assertIs(is_block(panel, block), True, block)

    def test_rectangles_beyond_the_panel(self):
        panel = Panel(3, 2, [(0, 0, 2, 3)])
        for block in ((0, 0, 3, 3), (0, 0, 2, 4), (0, 0, 12, 12), (2, 0, 3, 3), (0, 3, 2, 4), (50, 50, 51, 51),
                      (0, 0, 3, 2), (0, 0, 10 ** 30, 10 ** 30), (10 ** 30, 0, 10 ** 31, 1)):
            self.assertIs(is_block(panel, block), False, block)

    def test_what_is_no_rectangle_is_no_block(self):
        panel = read_drawing("ab/cd")
        for thing in NO_RECTANGLES:
            self.assertIs(is_block(panel, thing), False)

    def test_the_greatest_panel(self):
        panel = Panel(12, 12, [(0, 0, 12, 12)])
        self.assertIs(is_block(panel, (0, 0, 12, 12)), True)
        self.assertIs(is_block(panel, (0, 0, 12, 11)), False)


class TestPanesIn(unittest.TestCase):
    def test_the_whole_panel_and_each_pane(self):
        panel = read_drawing(WHEEL)
        self.assertEqual(panes_in(panel, (0, 0, 3, 4)), panel.panes())
        for pane in panel.panes():
            self.assertEqual(panes_in(panel=panel, block=pane), [pane])

    def test_sorted(self):
        panel = Panel(3, 3, [(2, 1, 3, 3), (0, 2, 2, 3), (1, 1, 2, 2), (0, 1, 1, 2), (0, 0, 3, 1)])
        self.assertEqual(panes_in(panel, (0, 1, 2, 3)), [(0, 1, 1, 2), (0, 2, 2, 3), (1, 1, 2, 2)])

    def test_told_lists_changed_and_told_again(self):
        panel = read_drawing(WHEEL)
        due = panel.panes()
        told = panes_in(panel, (0, 0, 3, 4))
        self.assertIs(type(told), list)
        told.reverse()
        told.pop()
        self.assertEqual(panes_in(panel, (0, 0, 3, 4)), due)
        self.assertEqual(panel.panes(), due)


class TestThrough(unittest.TestCase):
    def test_uprights_first(self):
        panel = read_drawing("aab/ccb")
        self.assertEqual(through(panel, (0, 0, 2, 3)), ([2], []))
        self.assertEqual(through(panel=panel, block=(0, 0, 2, 2)), ([], [1]))

    def test_kinds_of_what_is_told(self):
        told = through(read_drawing("ab/cd"), (0, 0, 2, 2))
        self.assertIs(type(told), tuple)
        self.assertEqual([type(lines) for lines in told], [list, list])
        self.assertEqual(told, ([1], [1]))

    def test_lines_rise(self):
        panel = read_drawing("abcdefghijkl/mnopqrstuvwx/yzABCDEFGHIJ")
        self.assertEqual(through(panel, (0, 0, 3, 12)), ([1, 2, 3, 4, 5, 6, 7, 8, 9, 10, 11], [1, 2]))
        self.assertEqual(through(panel.turned(), (0, 0, 12, 3)), ([1, 2], [1, 2, 3, 4, 5, 6, 7, 8, 9, 10, 11]))

    def test_lines_are_those_of_the_panel_not_of_the_block(self):
        panel = read_drawing("aaaa/bcde/bcff")
        self.assertEqual(through(panel, (1, 1, 3, 4)), ([2], []))
        self.assertEqual(through(panel, (1, 2, 3, 4)), ([], [2]))
        self.assertEqual(through(panel, (1, 2, 2, 4)), ([3], []))
        self.assertEqual(through(panel, (0, 0, 3, 4)), ([], [1]))

    def test_only_panes_of_the_block_are_broken(self):
        panel = read_drawing("aaaa/bcde")
        self.assertEqual(through(panel, (0, 0, 2, 4)), ([], [1]))
        self.assertEqual(through(panel, (1, 0, 2, 4)), ([1, 2, 3], []))

    def test_one_pane_has_none(self):
        panel = Panel(12, 12, [(0, 0, 12, 12)])
        self.assertEqual(through(panel, (0, 0, 12, 12)), ([], []))
        self.assertEqual(through(Panel(1, 1, [(0, 0, 1, 1)]), (0, 0, 1, 1)), ([], []))

    def test_a_wheel_has_none(self):
        self.assertEqual(through(read_drawing(WHEEL), (0, 0, 3, 4)), ([], []))

    def test_told_lists_changed_and_told_again(self):
        panel = read_drawing("abc/def")
        told = through(panel, (0, 0, 2, 3))
        told[0].clear()
        told[1].append(7)
        self.assertEqual(through(panel, (0, 0, 2, 3)), ([1, 2], [1]))
        none = through(panel, (0, 0, 1, 1))
        none[0].append(1)
        self.assertEqual(none[1], [])
        self.assertEqual(through(panel, (0, 0, 1, 1)), ([], []))


class TestNoBlock(unittest.TestCase):
    def refused(self, panel, thing):
        for asked in (panes_in, through, leads):
            with self.assertRaises(GlassError) as caught:
                asked(panel, thing)
            self.assertIs(type(caught.exception), NoBlock)
            self.assertIs(caught.exception.block, thing)

    def test_of_anything(self):
        panel = read_drawing("ab/cd")
        for thing in NO_RECTANGLES:
            self.refused(panel, thing)

    def test_of_rectangles_that_cut_a_pane_or_lie_beyond(self):
        panel = read_drawing(WHEEL)
        for thing in ((0, 0, 1, 2), (0, 0, 2, 4), (0, 0, 3, 5), (0, 0, 4, 4), (3, 0, 4, 1), (0, 0, 10 ** 30, 4)):
            self.refused(panel, thing)


if __name__ == "__main__":
    unittest.main()
