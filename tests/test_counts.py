"""The count of the panels of a size that have a tree [2, 17, the interface]."""

import itertools
import unittest

from glazebench.counts import count
from glazebench.cuts import Whole
from glazebench.errors import GlassError, NoSide, Stuck
from glazebench.panels import Panel
from glazebench.rooms import tree_of


class Touchy:
    """A thing that fails wherever it is compared, counted or written out."""

    def fail(self, *things):
        raise RuntimeError("touched")

    __eq__ = __lt__ = __le__ = __gt__ = __ge__ = fail
    __len__ = __iter__ = __getitem__ = __int__ = __index__ = __bool__ = __repr__ = fail
    __hash__ = None


SIDES = range(1, 5)
NO_SIDES = [None, True, False, 0, -1, 5, 6, 12, 13, 10 ** 5000, -10 ** 5000, 0.5, 3.0, float("nan"), 2j, "", "3", b"3",
            [], [3], (), (3,), {}, {1: 2}, set(), range(4), object(), int, len, Whole(), Touchy()]


def squares(pane):
    return {(row, column) for row in range(pane[0], pane[2]) for column in range(pane[1], pane[3])}


def all_panels(width, height):
    """All lists of panes of this size, each pane put where the first bare square is."""
    whole = sorted(squares((0, 0, height, width)))

    def filled(panes, taken):
        bare = [square for square in whole if square not in taken]
        if not bare:
            return [panes]
        found = []
        row, column = bare[0]
        for bottom, right in itertools.product(range(row + 1, height + 1), range(column + 1, width + 1)):
            pane = (row, column, bottom, right)
            if not squares(pane) & taken:
                found += filled(panes + [pane], taken | squares(pane))
        return found

    return filled([], frozenset())


def all_cut_panels():
    """For each size the set of all panels that some tree makes, each as rows of its squares' panes, by numbers."""
    found = {}
    for width, height in itertools.product(SIDES, repeat=2):
        told = {((0,) * width,) * height}
        for at in range(1, width):
            for one, other in itertools.product(found[(at, height)], found[(width - at, height)]):
                told.add(numbered([left + tuple(pane + 50 for pane in right) for left, right in zip(one, other)]))
        for at in range(1, height):
            for one, other in itertools.product(found[(width, at)], found[(width, height - at)]):
                told.add(numbered(one + tuple(tuple(pane + 50 for pane in row) for row in other)))
        found[(width, height)] = told
    return found


def numbered(rows):
    """The same panel with its panes numbered by their first squares."""
    numbers = {}
    return tuple(tuple(numbers.setdefault(pane, len(numbers)) for pane in row) for row in rows)


def has_tree(panel):
    try:
        tree_of(panel)
    except Stuck:
        return False
    return True


class TestCount(unittest.TestCase):
    def test_the_one_of_the_document(self):
        self.assertEqual(count(2, 2), 8)

    def test_one_row_or_one_column(self):
        # Each line within is there or not.
        for side, due in zip(SIDES, (1, 2, 4, 8)):
            self.assertEqual((count(side, 1), count(1, side)), (due, due))

    def test_three_by_three(self):
        # Of the 322 panels just the two wheels have no tree.
        self.assertEqual(len(all_panels(3, 3)), 322)
        self.assertEqual(count(width=3, height=3), 320)

    def test_all_sizes_against_all_panels_that_trees_make(self):
        for size, told in all_cut_panels().items():
            self.assertEqual(count(*size), len(told), size)

    def test_small_sizes_against_all_panels_and_their_trees(self):
        for width, height in itertools.product(SIDES, repeat=2):
            if width * height <= 12:
                due = [panes for panes in all_panels(width, height) if has_tree(Panel(width, height, panes))]
                self.assertEqual(count(width, height), len(due), (width, height))

    def test_turned_there_are_as_many(self):
        for width, height in itertools.product(SIDES, repeat=2):
            self.assertEqual(count(width, height), count(height, width))

    def test_the_same_again_and_a_whole_number(self):
        for width, height in itertools.product(SIDES, repeat=2):
            self.assertIs(type(count(width, height)), int)
            self.assertEqual(count(width, height), count(width, height))


class TestCountRefused(unittest.TestCase):
    def refused(self, thing, width, height):
        with self.assertRaises(GlassError) as caught:
            count(width, height)
        self.assertIs(type(caught.exception), NoSide)
        self.assertIs(caught.exception.side, thing)

    def test_no_side_of_anything(self):
        for thing in NO_SIDES:
            for side in SIDES:
                self.refused(thing, thing, side)
                self.refused(thing, side, thing)

    def test_the_width_ahead_of_the_height(self):
        for thing in NO_SIDES:
            self.refused(thing, thing, 0)
            self.refused(thing, thing, None)
            self.refused(5, 5, thing)


if __name__ == "__main__":
    unittest.main()
