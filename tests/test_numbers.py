"""The panels of a size that have a tree, and their numbers [2, 3, 17, the interface]."""

import itertools
import random
import unittest

from glazebench.counts import count
from glazebench.cuts import Level, Upright, Whole, panel_of
from glazebench.drawings import drawing, read_drawing
from glazebench.errors import GlassError, NoNumber, NoSide, Stuck
from glazebench.numbers import number_of, panel_by
from glazebench.panels import Panel
from glazebench.rooms import tree_of


class Touchy:
    """A thing that fails wherever it is compared, counted or written out."""

    def fail(self, *things):
        raise RuntimeError("touched")

    __eq__ = __lt__ = __le__ = __gt__ = __ge__ = fail
    __len__ = __iter__ = __getitem__ = __int__ = __index__ = __bool__ = __repr__ = fail
    __hash__ = None


SIZES = list(itertools.product(range(1, 5), repeat=2))
# Of these sizes all numbers are asked, of the greatest one a drawn part.
ALL_ASKED = [size for size in SIZES if size != (4, 4)]
NO_NUMBERS = [None, True, False, 0.5, 1.0, float("nan"), 2j, "", "0", b"0", [], [0], (), (0,), {}, {0: 0}, set(),
              range(4), object(), int, len, Whole(), Touchy()]
NO_SIDES = NO_NUMBERS + [0, -1, 5, 6, 12, 13, 10 ** 5000, -10 ** 5000]

# All wheels of sides up to four, and two rooms of four by four that are none.
STUCK_DRAWINGS = ("aab/cdb/cee", "abb/adc/eec", "aaab/cddb/ceee", "abbb/addc/eeec", "aab/cdb/cdb/cee",
                  "abb/adc/adc/eec", "xaab/xcdb/xcee", "aabx/cdby/ceez", "xxx/aab/cdb/cee", "aab/cdb/cee/xyz",
                  "aaab/cddb/cddb/ceee", "aaab/cfdb/cghb/ceee", "aabb/cdde/cfge/hhgi", "aaab/ccdb/efdb/gfhh",
                  "pqrs/yaab/ycdb/ycee", "aabx/cdbx/ceex/yyyy")


def squares(pane):
    return {(row, column) for row in range(pane[0], pane[2]) for column in range(pane[1], pane[3])}


def all_panels(width, height):
    """All lists of panes of this size, each pane put where the first bare square is."""
    whole = sorted(squares((0, 0, height, width)))

    def filled(panes, taken):
        bare = [square for square in whole if square not in taken]
        if not bare:
            return [panes]
        found = []
        row, column = bare[0]
        for bottom, right in itertools.product(range(row + 1, height + 1), range(column + 1, width + 1)):
            pane = (row, column, bottom, right)
            if not squares(pane) & taken:
                found += filled(panes + [pane], taken | squares(pane))
        return found

    return filled([], frozenset())


def has_tree(panel):
    try:
        tree_of(panel)
    except Stuck:
        return False
    return True


def any_tree(chance, width, height):
    cuts = [(Upright, at) for at in range(1, width)] + [(Level, at) for at in range(1, height)]
    if not cuts or chance.random() < 0.2:
        return Whole()
    kind, at = chance.choice(cuts)
    if kind is Upright:
        return Upright(at, any_tree(chance, at, height), any_tree(chance, width - at, height))
    return Level(at, any_tree(chance, width, at), any_tree(chance, width, height - at))


def drawn_numbers(seed, many, width, height):
    greatest = count(width, height) - 1
    return sorted({0, 1, greatest - 1, greatest} | set(random.Random(seed).sample(range(greatest + 1), many)))


class NumbersCase(unittest.TestCase):
    def refused(self, kind, name, value, asked, *things):
        with self.assertRaises(GlassError) as caught:
            asked(*things)
        self.assertIs(type(caught.exception), kind)
        self.assertIs(getattr(caught.exception, name), value)

    def check_same(self, panel, other):
        self.assertEqual((panel.width, panel.height, panel.panes()), (other.width, other.height, other.panes()))

    def check_numbers(self, width, height, numbers):
        """Each a panel of this size that has a tree, with this number; no two alike."""
        seen = set()
        for number in numbers:
            panel = panel_by(width, height, number)
            self.assertIs(type(panel), Panel)
            self.assertEqual((panel.width, panel.height), (width, height))
            self.assertTrue(has_tree(panel))
            told = number_of(panel)
            self.assertIs(type(told), int)
            self.assertEqual(told, number)
            seen.add(tuple(panel.panes()))
        self.assertEqual(len(seen), len(numbers))
        return seen


class TestNumbers(NumbersCase):
    def test_the_size_of_the_document(self):
        # Of two by two squares just these eight: no panel of them is without a tree.
        drawn = {drawing(panel_by(2, 2, number)) for number in range(8)}
        self.assertEqual(drawn, {"aa/aa", "aa/bb", "aa/bc", "ab/cc", "ab/ab", "ab/ac", "ab/cb", "ab/cd"})
        self.assertEqual(sorted(number_of(read_drawing(text)) for text in drawn), list(range(8)))

    def test_one_square(self):
        self.check_same(panel_by(1, 1, 0), Panel(1, 1, [(0, 0, 1, 1)]))
        self.assertEqual(number_of(Panel(1, 1, [(0, 0, 1, 1)])), 0)

    def test_each_number_of_each_size_but_the_greatest(self):
        for width, height in ALL_ASKED:
            self.check_numbers(width, height, range(count(width, height)))

    def test_a_drawn_part_of_the_greatest_size(self):
        self.check_numbers(4, 4, drawn_numbers(17, 1500, 4, 4))

    def test_neighbours_in_the_greatest_size(self):
        # Where one sort of panels ends and another one begins, a slip would tell one panel twice or leave one out.
        for begin in (0, 5000, 20000, 40000, 60000, count(4, 4) - 150):
            self.check_numbers(4, 4, range(begin, begin + 150))

    def test_arguments_by_name(self):
        self.check_same(panel_by(width=3, height=2, number=5), panel_by(3, 2, 5))
        self.assertEqual(number_of(panel=panel_by(3, 2, 5)), 5)


class TestNumbersOfPanels(NumbersCase):
    def test_all_panels_with_a_tree_made_otherwise(self):
        for width, height in SIZES:
            if width * height > 12:
                continue
            some = [Panel(width, height, panes[::-1]) for panes in all_panels(width, height)]
            cut = [panel for panel in some if has_tree(panel)]
            numbers = [number_of(panel) for panel in cut]
            self.assertEqual(sorted(numbers), list(range(count(width, height))), (width, height))
            # For twelve squares some of them do: the numbers above are all there, each once.
            for panel, number in list(zip(cut, numbers))[::1 if width * height < 12 else 7]:
                self.check_same(panel_by(width, height, number), panel)

    def test_panels_of_drawn_trees(self):
        chance = random.Random(1704)
        seen = {}
        for trial in range(1000):
            panel = panel_of(any_tree(chance, 4, 4), 4, 4)
            number = number_of(panel)
            self.assertTrue(0 <= number < count(4, 4))
            self.check_same(panel_by(4, 4, number), panel)
            self.assertEqual(seen.setdefault(number, panel.panes()), panel.panes())
        self.assertGreater(len(seen), 400)

    def test_panels_with_all_lines_or_none(self):
        for width, height in SIZES:
            for panes in ([(0, 0, height, width)],
                          [(row, column, row + 1, column + 1) for row in range(height) for column in range(width)],
                          [(row, 0, row + 1, width) for row in range(height)],
                          [(0, column, height, column + 1) for column in range(width)]):
                panel = Panel(width, height, panes)
                self.check_same(panel_by(width, height, number_of(panel)), panel)

    def test_lines_that_all_parts_but_one_have(self):
        # A line that goes through all strips but one is none of the panel's own.
        for text in ("abcd/efgh/iijj/klmn", "aabb/cdef/ghij/klmn", "abcc/abdd/abee/fghi", "abbc/dbbe/fghi/jklm",
                     "aaaa/bcde/bcde/ffff", "abbb/accc/addd/aeee", "aabc/ddbc/eebc/fghi", "abcd/abce/abff/gggg"):
            panel = read_drawing(text)
            self.check_same(panel_by(4, 4, number_of(panel)), panel)


class TestNumbersOnesOwn(NumbersCase):
    def test_the_same_again(self):
        for number in drawn_numbers(5, 50, 4, 4):
            panel = panel_by(4, 4, number)
            again = panel_by(4, 4, number)
            self.assertIsNot(panel, again)
            self.check_same(panel, again)
            self.assertEqual(number_of(panel), number_of(again))

    def test_nothing_is_changed(self):
        panel = read_drawing("aab/ccb/dee")
        before = panel.panes()
        number = number_of(panel)
        panel.panes().clear()
        self.assertEqual((panel.width, panel.height, panel.panes()), (3, 3, before))
        told = panel_by(3, 3, number)
        told.panes().clear()
        self.check_same(panel_by(3, 3, number), panel)
        self.assertEqual(number_of(told), number)


class TestPanelByRefused(NumbersCase):
    def test_no_side_of_anything(self):
        for thing in NO_SIDES:
            for side in range(1, 5):
                self.refused(NoSide, "side", thing, panel_by, thing, side, 0)
                self.refused(NoSide, "side", thing, panel_by, side, thing, 0)

    def test_the_width_ahead_of_the_height(self):
        for thing in NO_SIDES:
            self.refused(NoSide, "side", thing, panel_by, thing, 0, 0)
            self.refused(NoSide, "side", thing, panel_by, thing, None, 0)
            self.refused(NoSide, "side", 5, panel_by, 5, thing, 0)

    def test_no_side_ahead_of_no_number(self):
        for number in NO_NUMBERS + [-1, 8]:
            self.refused(NoSide, "side", 5, panel_by, 5, 2, number)
            self.refused(NoSide, "side", False, panel_by, 2, False, number)

    def test_numbers_beyond(self):
        for width, height in SIZES:
            many = count(width, height)
            for number in (-1, -2, -many, many, many + 1, 10 ** 30, -10 ** 5000, 10 ** 5000):
                self.refused(NoNumber, "number", number, panel_by, width, height, number)

    def test_no_whole_number(self):
        for width, height in ((1, 1), (2, 2), (4, 4)):
            for thing in NO_NUMBERS:
                self.refused(NoNumber, "number", thing, panel_by, width, height, thing)


class TestNumberOfRefused(NumbersCase):
    def side_refused(self, side, panel):
        with self.assertRaises(GlassError) as caught:
            number_of(panel)
        self.assertIs(type(caught.exception), NoSide)
        self.assertEqual(caught.exception.side, side)

    def test_sides_above_four(self):
        for width, height in itertools.product(range(1, 13), repeat=2):
            if max(width, height) > 4:
                due = width if width > 4 else height
                self.side_refused(due, Panel(width, height, [(0, 0, height, width)]))

    def test_a_side_above_four_ahead_of_a_room(self):
        self.side_refused(5, read_drawing("aabxx/cdbxx/ceexx"))
        self.side_refused(5, read_drawing("aab/cdb/cee/xxx/xxx"))
        self.side_refused(7, read_drawing("aaaaaab/cdddddb/ceeeeee"))
        self.side_refused(6, read_drawing("aaaaab/cddddb/cddddb/cddddb/ceeeee"))

    def test_panels_with_a_room(self):
        for text in STUCK_DRAWINGS:
            panel = read_drawing(text)
            with self.assertRaises(Stuck) as due:
                tree_of(panel)
            with self.assertRaises(GlassError) as caught:
                number_of(panel)
            told, other = caught.exception, due.exception
            self.assertIs(type(told), Stuck)
            self.assertEqual((told.room, told.breaks, told.leads), (other.room, other.breaks, other.leads))

    def test_all_small_panels_with_a_room(self):
        for width, height in ((3, 3), (4, 3), (3, 4)):
            for panes in all_panels(width, height):
                panel = Panel(width, height, panes)
                if not has_tree(panel):
                    self.assertRaises(Stuck, number_of, panel)


if __name__ == "__main__":
    unittest.main()
