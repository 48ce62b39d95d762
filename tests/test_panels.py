"""Sides, rectangles and panels [2, 4, 5, the interface]."""

import collections
import copy
import itertools
import unittest

from glazebench.errors import Bare, GlassError, NoPane, NoSide, Overlap, TooMany
from glazebench.panels import Panel, inside, is_rectangle, is_side


class Touchy:
    """A thing that fails wherever it is compared, counted or written out."""

    def fail(self, *things):
        raise RuntimeError("touched")

    __eq__ = __lt__ = __le__ = __gt__ = __ge__ = fail
    __len__ = __iter__ = __getitem__ = __int__ = __index__ = __bool__ = __repr__ = fail
    __hash__ = None


ENDLESS = []
ENDLESS.append(ENDLESS)

# Things that are neither a side nor a rectangle nor a text, whatever one asks of them.
ODD_THINGS = [
    None, True, False, 0.5, 1.0, 3.0, float("nan"), float("inf"), 2j, b"", b"a", [], [3], (), (3,), {}, {1: 2},
    set(), range(4), object(), int, len, Touchy(), ENDLESS,
]

ROWS_OF_UNITS = [(row, column, row + 1, column + 1) for row in range(4) for column in range(12)]
FIFTY_TWO = ROWS_OF_UNITS + [(4, column, 5, column + 3) for column in (0, 3, 6, 9)]
FIFTY_THREE = ROWS_OF_UNITS + [(4, 0, 5, 3), (4, 3, 5, 6), (4, 6, 5, 9), (4, 9, 5, 11), (4, 11, 5, 12)]

# A wheel of five panes about its middle, four columns wide and three rows high.
WHEEL = [(0, 0, 1, 3), (0, 3, 2, 4), (1, 0, 3, 1), (1, 1, 2, 3), (2, 1, 3, 4)]


def squares(pane):
    return {(row, column) for row in range(pane[0], pane[2]) for column in range(pane[1], pane[3])}


def refusal_due(width, height, panes):
    """Point 5 told once more: the class of the refusal and its value, or None."""
    whole = squares((0, 0, height, width))
    if len(panes) > 52:
        return TooMany, len(panes)
    for place, pane in enumerate(panes):
        if not is_rectangle(pane) or squares(pane) - whole:
            return NoPane, place
    for place, pane in enumerate(panes):
        if any(squares(pane) & squares(earlier) for earlier in panes[:place]):
            return Overlap, place
    bare = whole - set().union(*[squares(pane) for pane in panes])
    return (Bare, min(bare)) if bare else None


class TestIsSide(unittest.TestCase):
    def test_sides_are_the_numbers_from_1_to_12(self):
        for number in range(-30, 60):
            self.assertIs(is_side(number), number in (1, 2, 3, 4, 5, 6, 7, 8, 9, 10, 11, 12), number)

    def test_numbers_far_off(self):
        for number in (10 ** 9, -10 ** 9, 10 ** 5000, -10 ** 5000, 2 ** 64 + 1):
            self.assertIs(is_side(number), False)

    def test_other_things_are_no_sides(self):
        for thing in ODD_THINGS + ["", "1", "3", "a", (0, 0, 1, 1)]:
            self.assertIs(is_side(thing), False)


class TestIsRectangle(unittest.TestCase):
    def test_all_tuples_of_four_small_numbers(self):
        for thing in itertools.product(range(-1, 4), repeat=4):
            top, left, bottom, right = thing
            due = top >= 0 and left >= 0 and bottom > top and right > left
            self.assertIs(is_rectangle(thing), due, thing)

    def test_rectangles_far_off(self):
        self.assertIs(is_rectangle((0, 0, 13, 13)), True)
        self.assertIs(is_rectangle((100, 200, 101, 201)), True)
        self.assertIs(is_rectangle((0, 10 ** 20, 1, 10 ** 5000)), True)
        self.assertIs(is_rectangle((0, -10 ** 20, 1, 1)), False)

    def test_tuples_of_another_length(self):
        for thing in ((), (0,), (0, 0), (0, 0, 1), (0, 0, 1, 1, 1), (0, 0, 1, 1, 2, 2)):
            self.assertIs(is_rectangle(thing), False, thing)

    def test_a_tuple_with_another_thing_in_it(self):
        for place in range(4):
            for thing in ODD_THINGS + ["", "0", "1"]:
                parts = [0, 0, 2, 2]
                parts[place] = thing
                self.assertIs(is_rectangle(tuple(parts)), False)

    def test_truths_are_no_numbers_though_python_has_them_so(self):
        self.assertIs(is_rectangle((0, 0, True, 1)), False)
        self.assertIs(is_rectangle((False, 0, 1, 1)), False)
        self.assertIs(is_rectangle((False, False, True, True)), False)

    def test_other_things_are_no_rectangles(self):
        for thing in ODD_THINGS + [0, 1, "", "0011", [0, 0, 1, 1], {0: 0, 1: 1, 2: 2, 3: 3}]:
            self.assertIs(is_rectangle(thing), False)


class TestInside(unittest.TestCase):
    def test_every_pair_of_small_rectangles(self):
        some = [thing for thing in itertools.product(range(4), repeat=4) if is_rectangle(thing)]
        for one, other in itertools.product(some, repeat=2):
            self.assertIs(inside(one, other), squares(one) <= squares(other), (one, other))

    def test_either_way_round(self):
        self.assertIs(inside((1, 1, 2, 2), (0, 0, 3, 3)), True)
        self.assertIs(inside((0, 0, 3, 3), (1, 1, 2, 2)), False)
        self.assertIs(inside((0, 0, 3, 3), (0, 0, 3, 3)), True)
        self.assertIs(inside((0, 0, 1, 4), (0, 0, 4, 1)), False)
        self.assertIs(inside((0, 0, 4, 1), (0, 0, 1, 4)), False)


class PanelCase(unittest.TestCase):
    def refused(self, kind, name, value, width, height, panes):
        handed = copy.copy(panes)
        with self.assertRaises(GlassError) as caught:
            Panel(width, height, panes)
        self.assertIs(type(caught.exception), kind)
        told = getattr(caught.exception, name)
        self.assertEqual(told, value)
        self.assertIs(type(told), type(value))
        self.assertEqual(panes, handed)

    def refused_side(self, side, width, height, panes):
        with self.assertRaises(NoSide) as caught:
            Panel(width, height, panes)
        self.assertIs(caught.exception.side, side)


class TestPanelRefusals(PanelCase):
    def test_no_side(self):
        for thing in ODD_THINGS + [0, -1, 13, 14, 10 ** 5000, -10 ** 5000, "", "3"]:
            self.refused_side(thing, thing, 1, [(0, 0, 1, 1)])
            self.refused_side(thing, 1, thing, [(0, 0, 1, 1)])

    def test_no_side_the_width_ahead_of_the_height(self):
        self.refused_side(0, 0, 13, [(0, 0, 1, 1)])
        self.refused_side(13, 13, 0, [(0, 0, 1, 1)])
        self.refused_side(None, None, "3", [])
        self.refused_side("3", "3", None, [])

    def test_no_side_ahead_of_all_others(self):
        self.refused_side(13, 13, 5, FIFTY_THREE)
        self.refused_side(0, 12, 0, FIFTY_THREE)
        self.refused_side(True, 1, True, [None])
        self.refused_side(0, 0, 1, [(0, 0, 1, 1), (0, 0, 1, 1)])
        self.refused_side(0, 1, 0, [])

    def test_too_many(self):
        self.refused(TooMany, "many", 53, 12, 5, FIFTY_THREE)
        self.refused(TooMany, "many", 53, 12, 12, [(0, 0, 1, 1)] * 53)
        self.refused(TooMany, "many", 144, 12, 12, [(0, 0, 1, 1)] * 144)

    def test_too_many_ahead_of_no_pane(self):
        self.refused(TooMany, "many", 53, 12, 5, [None] * 53)
        self.refused(TooMany, "many", 54, 12, 5, [None] + FIFTY_THREE)
        self.refused(NoPane, "place", 0, 12, 5, [None] * 52)

    def test_fifty_two_are_not_too_many(self):
        self.assertEqual(Panel(12, 5, FIFTY_TWO).panes(), FIFTY_TWO)

    def test_no_pane_of_whatever_is_no_rectangle(self):
        bad = ODD_THINGS + [0, 1, "", "0011", [0, 0, 1, 1], (0, 0, 1), (0, 0, 1, 1, 1), (0, 0, True, 1), (0, 0, 0, 1),
                            (0, 0, 1, 0), (1, 0, 0, 1), (-1, 0, 1, 1), (0, -1, 1, 1), ("0", 0, 1, 1)]
        for thing in bad:
            with self.assertRaises(NoPane) as caught:
                Panel(2, 1, [(0, 1, 1, 2), thing])
            self.assertEqual(caught.exception.place, 1)

    def test_no_pane_beyond_the_panel(self):
        self.refused(NoPane, "place", 0, 3, 2, [(0, 0, 3, 3)])
        self.refused(NoPane, "place", 0, 3, 2, [(0, 0, 2, 4)])
        self.refused(NoPane, "place", 0, 3, 2, [(0, 0, 3, 2)])
        self.refused(NoPane, "place", 1, 3, 2, [(0, 0, 2, 3), (5, 5, 6, 6)])
        self.refused(NoPane, "place", 0, 3, 2, [(0, 0, 10 ** 30, 10 ** 30)])

    def test_no_pane_tells_the_first_such_place(self):
        self.refused(NoPane, "place", 1, 2, 1, [(0, 0, 1, 1), None, (0, 0, 1, 9), None])

    def test_no_pane_ahead_of_overlap(self):
        self.refused(NoPane, "place", 2, 2, 1, [(0, 0, 1, 2), (0, 0, 1, 2), None])
        self.refused(NoPane, "place", 2, 2, 1, [(0, 0, 1, 2), (0, 0, 1, 2), (0, 0, 2, 2)])

    def test_overlap(self):
        self.refused(Overlap, "place", 1, 2, 1, [(0, 0, 1, 2), (0, 1, 1, 2)])
        self.refused(Overlap, "place", 1, 1, 1, [(0, 0, 1, 1), (0, 0, 1, 1)])
        self.refused(Overlap, "place", 2, 3, 3, [(0, 0, 2, 2), (2, 2, 3, 3), (1, 1, 3, 3), (0, 0, 3, 3)])
        self.refused(Overlap, "place", 3, 3, 3, [(0, 0, 1, 3), (1, 0, 2, 3), (2, 0, 3, 3), (0, 1, 3, 2)])

    def test_overlap_ahead_of_bare(self):
        self.refused(Overlap, "place", 1, 3, 3, [(2, 2, 3, 3), (2, 2, 3, 3)])
        self.refused(Overlap, "place", 51, 12, 12, FIFTY_TWO[:51] + [(0, 0, 1, 1)])

    def test_bare(self):
        self.refused(Bare, "square", (0, 0), 12, 12, [])
        self.refused(Bare, "square", (0, 0), 1, 1, [])
        self.refused(Bare, "square", (0, 2), 3, 3, [(0, 0, 3, 2)])
        self.refused(Bare, "square", (2, 0), 3, 3, [(0, 0, 2, 3)])
        self.refused(Bare, "square", (0, 2), 3, 3, [(0, 0, 1, 2), (2, 2, 3, 3)])
        self.refused(Bare, "square", (11, 11), 12, 12, [(0, 0, 11, 12), (11, 0, 12, 11)])

    def test_every_short_list_of_things_in_two_small_panels(self):
        pool = [pane for pane in itertools.product(range(3), repeat=4) if is_rectangle(pane)]
        pool += [(0, 0, 1, 3), (1, 1, 3, 2), None]
        for width, height in ((2, 2), (2, 1)):
            for many in range(4):
                for panes in itertools.product(pool, repeat=many):
                    self.check_list(width, height, list(panes))

    def check_list(self, width, height, panes):
        due = refusal_due(width, height, panes)
        try:
            told = Panel(width, height, panes).panes()
        except (NoPane, Overlap) as refusal:
            self.assertEqual((type(refusal), refusal.place), due, panes)
        except Bare as refusal:
            self.assertEqual((Bare, refusal.square), due, panes)
        else:
            self.assertIsNone(due, panes)
            self.assertEqual(told, sorted(panes))


class TestPanel(PanelCase):
    def test_values(self):
        panel = Panel(4, 3, WHEEL)
        self.assertEqual((panel.width, panel.height), (4, 3))

    def test_the_least_and_the_greatest_panel(self):
        self.assertEqual(Panel(1, 1, [(0, 0, 1, 1)]).panes(), [(0, 0, 1, 1)])
        self.assertEqual(Panel(12, 12, [(0, 0, 12, 12)]).panes(), [(0, 0, 12, 12)])
        self.assertEqual(Panel(12, 1, [(0, 0, 1, 12)]).pane_at(0, 11), (0, 0, 1, 12))
        self.assertEqual(Panel(1, 12, [(0, 0, 12, 1)]).pane_at(11, 0), (0, 0, 12, 1))

    def test_panes_in_any_order_are_told_sorted(self):
        for panes in itertools.permutations(WHEEL):
            self.assertEqual(Panel(4, 3, list(panes)).panes(), WHEEL)
        self.assertEqual(Panel(12, 5, FIFTY_TWO[::-1]).panes(), FIFTY_TWO)

    def test_panes_are_sorted_as_numbers_not_as_texts(self):
        columns = [(0, column, 1, column + 1) for column in range(12)]
        self.assertEqual(Panel(12, 1, columns[::-1]).panes(), columns)

    def test_the_list_handed_in_is_not_changed(self):
        panes = WHEEL[::-1]
        Panel(4, 3, panes)
        self.assertEqual(panes, WHEEL[::-1])

    def check_wheel(self, panel):
        self.assertEqual((panel.width, panel.height), (4, 3))
        self.assertEqual(panel.panes(), WHEEL)
        for pane in WHEEL:
            for row, column in squares(pane):
                self.assertEqual(panel.pane_at(row, column), pane)

    def test_a_later_change_of_the_list_handed_in_changes_nothing(self):
        panes = list(WHEEL)
        panel = Panel(4, 3, panes)
        panes[0] = (0, 0, 9, 9)
        panes.pop()
        self.check_wheel(panel)
        panes.clear()
        self.check_wheel(panel)

    def test_a_change_of_the_list_told_changes_nothing(self):
        panel = Panel(4, 3, WHEEL)
        told = panel.panes()
        self.assertIs(type(told), list)
        self.assertIsNot(told, panel.panes())
        told.reverse()
        told.append(None)
        self.check_wheel(panel)
        told.clear()
        self.check_wheel(panel)

    def test_a_list_told_earlier_stays_as_it_was(self):
        panel = Panel(4, 3, WHEEL)
        told = panel.panes()
        panel.panes().clear()
        panel.turned()
        self.assertEqual(told, WHEEL)

    def test_panels_of_one_list_are_apart(self):
        panes = list(WHEEL)
        one = Panel(4, 3, panes)
        panes[:] = [(0, 0, 3, 4)]
        other = Panel(4, 3, panes)
        self.check_wheel(one)
        self.assertEqual(other.panes(), [(0, 0, 3, 4)])

    def test_panes_are_told_as_plain_tuples(self):
        pane = collections.namedtuple("pane", "top left bottom right")(0, 0, 1, 1)
        panel = Panel(1, 1, [pane])
        self.assertIs(type(panel.panes()[0]), tuple)
        self.assertIs(type(panel.pane_at(0, 0)), tuple)

    def test_pane_at_every_square(self):
        self.check_wheel(Panel(4, 3, WHEEL))
        panel = Panel(12, 5, FIFTY_TWO[::-1])
        for pane in FIFTY_TWO:
            for row, column in squares(pane):
                self.assertEqual(panel.pane_at(row, column), pane)


class TestTurned(PanelCase):
    def test_turned_has_rows_for_columns(self):
        turned = Panel(4, 3, WHEEL).turned()
        self.assertIsInstance(turned, Panel)
        self.assertEqual((turned.width, turned.height), (3, 4))
        self.assertEqual(turned.panes(), [(0, 0, 3, 1), (0, 1, 1, 3), (1, 1, 3, 2), (1, 2, 4, 3), (3, 0, 4, 2)])

    def test_each_square_is_turned(self):
        for width, height, panes in ((4, 3, WHEEL), (12, 5, FIFTY_TWO)):
            panel = Panel(width, height, panes)
            turned = panel.turned()
            for row, column in squares((0, 0, height, width)):
                top, left, bottom, right = panel.pane_at(row, column)
                self.assertEqual(turned.pane_at(column, row), (left, top, right, bottom))

    def test_turned_again(self):
        for width, height, panes in ((4, 3, WHEEL), (12, 5, FIFTY_TWO), (1, 12, [(0, 0, 12, 1)])):
            again = Panel(width, height, panes).turned().turned()
            self.assertEqual((again.width, again.height, again.panes()), (width, height, panes))

    def test_the_panel_turned_stays_as_it_was(self):
        panel = Panel(4, 3, WHEEL)
        panel.turned().panes().clear()
        self.assertEqual((panel.width, panel.height, panel.panes()), (4, 3, WHEEL))
        self.assertEqual(panel.pane_at(0, 3), (0, 3, 2, 4))

    def test_a_new_panel_is_told_even_where_it_is_the_same_turned(self):
        panel = Panel(1, 1, [(0, 0, 1, 1)])
        self.assertIsNot(panel.turned(), panel)
        self.assertIsNot(panel.turned(), panel.turned())


if __name__ == "__main__":
    unittest.main()
