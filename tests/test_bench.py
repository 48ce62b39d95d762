"""The bench: panes cut one at a time, its sheets, offcuts and areas [2, 3, 24, 25, the interface]."""

import random
import time
import unittest

from glazebench.bench import Bench
from glazebench.cuts import Tree, Whole, pieces
from glazebench.cuttexts import written
from glazebench.errors import GlassError, NoGlass, NoSheet, NoSide, TooMany


class Touchy:
    """A thing that fails wherever it is compared, counted or written out."""

    def fail(self, *things):
        raise RuntimeError("touched")

    __eq__ = __lt__ = __le__ = __gt__ = __ge__ = fail
    __len__ = __iter__ = __getitem__ = __int__ = __index__ = __bool__ = __repr__ = fail
    __hash__ = None


NO_SIDES = [None, True, False, 0.5, 1.0, 3.0, float("nan"), 2j, "", "1", b"1", [], [1], (), (1,), {}, {1: 2}, set(),
            range(4), object(), int, len, Whole(), Touchy(), 0, -1, 13, 10 ** 5000, -10 ** 5000]
NO_SHEETS = (
    [None, True, 3, 0.5, "", "23", "2 3", b"23", {}, {2: 3}, set(), frozenset((2, 3)), range(2), object(), tuple,
     Whole(), Touchy(), [], [2, 3], (), (2,), (2, 3, 4), (2, 3, True), ((2, 3),), ((2, 3), (2, 3))]
    + [(thing, 3) for thing in NO_SIDES] + [(2, thing) for thing in NO_SIDES])


def area(rectangle):
    return (rectangle[2] - rectangle[0]) * (rectangle[3] - rectangle[1])


class Told:
    """Points 24 and 25 told once more, with the words of a tree kept for each piece."""

    def __init__(self, sizes):
        self.sizes = sizes
        self.taken = []
        self.offcuts = []
        self.panes = []

    def lies(self, width, height, piece, turns):
        """The size in which a piece holds a pane; None where it doesn't."""
        top, left, bottom, right = piece
        if width <= right - left and height <= bottom - top:
            return (width, height)
        if turns and height <= right - left and width <= bottom - top:
            return (height, width)
        return None

    def cut(self, width, height, turns):
        good = [(area(piece), sheet, piece) for sheet, piece in self.offcuts
                if self.lies(width, height, piece, turns)]
        if not good:
            new = [(size[0] * size[1], number) for number, size in enumerate(self.sizes)
                   if self.lies(width, height, (0, 0, size[1], size[0]), turns)]
            if not new:
                return None
            number = min(new)[1]
            whole = (0, 0, self.sizes[number][1], self.sizes[number][0])
            self.taken.append((number, {whole: "."}))
            self.offcuts.append((len(self.taken) - 1, whole))
            good = [(area(whole), len(self.taken) - 1, whole)]
        least, sheet, piece = min(good)
        self.offcuts.remove((sheet, piece))
        pane = self.cut_off(sheet, piece, *self.lies(width, height, piece, turns))
        self.panes.append((sheet, pane))
        return (sheet, pane)

    def cut_off(self, sheet, piece, width, height):
        top, left, bottom, right = piece
        parts = self.taken[sheet][1]
        if left + width < right:
            rest = (top, left + width, bottom, right)
            left_part = (top, left, bottom, left + width)
            parts[piece] = (f"|{width}", left_part, rest)
            parts[rest] = "."
            self.offcuts.append((sheet, rest))
            piece = left_part
        if top + height < bottom:
            rest = (top + height, left, bottom, left + width)
            upper = (top, left, top + height, left + width)
            parts[piece] = (f"-{height}", upper, rest)
            parts[rest] = "."
            self.offcuts.append((sheet, rest))
            piece = upper
        parts[piece] = f"#{len(self.panes)}"
        return piece

    def words(self, parts, piece):
        part = parts[piece]
        if isinstance(part, str):
            return part
        return " ".join([part[0], self.words(parts, part[1]), self.words(parts, part[2])])

    def sheets(self):
        return [(number, self.words(parts, (0, 0, self.sizes[number][1], self.sizes[number][0])))
                for number, parts in self.taken]

    def areas(self):
        return (sum(self.sizes[number][0] * self.sizes[number][1] for number, parts in self.taken),
                sum(area(pane) for sheet, pane in self.panes), sum(area(piece) for sheet, piece in self.offcuts))


def in_texts(sheets):
    return [(number, written(tree)) for number, tree in sheets]


def all_told(bench):
    return (in_texts(bench.sheets()), bench.offcuts(), bench.areas())


def any_panes(chance, many, longest):
    return [(chance.randint(1, longest), chance.randint(1, longest), chance.random() < 0.5) for place in range(many)]


class BenchCase(unittest.TestCase):
    def refused(self, kind, names, values, asked, *things):
        with self.assertRaises(GlassError) as caught:
            asked(*things)
        self.assertIs(type(caught.exception), kind)
        self.assertEqual([getattr(caught.exception, name) for name in names], values)

    def refused_itself(self, kind, name, value, asked, *things):
        with self.assertRaises(GlassError) as caught:
            asked(*things)
        self.assertIs(type(caught.exception), kind)
        self.assertIs(getattr(caught.exception, name), value)

    def check_whole(self, bench, sizes, panes):
        """What holds of every bench: the trees fit, and their pieces are the panes and the offcuts."""
        left = []
        marked = {}
        for place, (number, tree) in enumerate(bench.sheets()):
            self.assertIsInstance(tree, Tree)
            self.assertTrue(tree.fits(*sizes[number]))
            for piece, mark in pieces(tree, *sizes[number]):
                if mark is None:
                    left.append((place, piece))
                else:
                    self.assertNotIn(mark, marked)
                    marked[mark] = (place, piece)
        self.assertEqual(bench.offcuts(), sorted(left))
        self.assertEqual(marked, dict(enumerate(panes)))
        taken, cut, offcut = bench.areas()
        self.assertEqual(taken, cut + offcut)
        self.assertEqual(taken, sum(sizes[number][0] * sizes[number][1] for number, tree in bench.sheets()))
        self.assertEqual(cut, sum(area(pane) for place, pane in panes))
        self.assertEqual(offcut, sum(area(piece) for place, piece in left))

    def check_kinds(self, bench):
        self.assertIs(type(bench.sheets()), list)
        self.assertIs(type(bench.offcuts()), list)
        self.assertIs(type(bench.areas()), tuple)
        self.assertEqual([type(number) for number in bench.areas()], [int] * 3)
        for number, tree in bench.sheets():
            self.assertIs(type(number), int)
        self.assertTrue(all(type(sheet) is tuple for sheet in bench.sheets()))
        for offcut in bench.offcuts():
            self.assertIs(type(offcut), tuple)
            self.assertIs(type(offcut[0]), int)
            self.assertIs(type(offcut[1]), tuple)

    def run_beside(self, sizes, some):
        """Panes cut one by one, beside what is told of points 24 and 25 here."""
        bench = Bench(list(sizes))
        told = Told(sizes)
        for width, height, turns in some:
            due = told.cut(width, height, turns)
            if due is None:
                self.refused(NoGlass, ["width", "height"], [width, height], bench.cut, width, height, turns)
            else:
                self.assertEqual(bench.cut(width, height, turns), due)
            self.assertEqual(all_told(bench), (told.sheets(), sorted(told.offcuts), told.areas()))
        self.check_whole(bench, sizes, told.panes)


class TestCut(BenchCase):
    def test_a_new_bench_has_taken_nothing(self):
        self.assertEqual(all_told(Bench([(3, 2)])), ([], [], (0, 0, 0)))

    def test_a_pane_as_great_as_the_sheet(self):
        bench = Bench([(3, 2)])
        self.assertEqual(bench.cut(3, 2), (0, (0, 0, 2, 3)))
        self.assertEqual(all_told(bench), ([(0, "#0")], [], (6, 6, 0)))

    def test_a_pane_as_wide_as_the_sheet(self):
        bench = Bench([(3, 4)])
        self.assertEqual(bench.cut(3, 1), (0, (0, 0, 1, 3)))
        self.assertEqual(all_told(bench), ([(0, "-1 #0 .")], [(0, (1, 0, 4, 3))], (12, 3, 9)))

    def test_a_pane_as_high_as_the_sheet(self):
        bench = Bench([(3, 4)])
        self.assertEqual(bench.cut(1, 4), (0, (0, 0, 4, 1)))
        self.assertEqual(all_told(bench), ([(0, "|1 #0 .")], [(0, (0, 1, 4, 3))], (12, 4, 8)))

    def test_an_upright_cut_then_a_level_one_of_the_left_part(self):
        bench = Bench([(5, 4)])
        self.assertEqual(bench.cut(3, 1), (0, (0, 0, 1, 3)))
        self.assertEqual(all_told(bench),
                         ([(0, "|3 -1 #0 . .")], [(0, (0, 3, 4, 5)), (0, (1, 0, 4, 3))], (20, 3, 17)))

    def test_off_the_offcut_of_least_area(self):
        bench = Bench([(5, 4)])
        bench.cut(3, 1)
        # Two by four lies right of three by three: eight squares and nine.
        self.assertEqual(bench.cut(2, 2), (0, (0, 3, 2, 5)))
        self.assertEqual(in_texts(bench.sheets()), [(0, "|3 -1 #0 . -2 #1 .")])
        self.assertEqual(bench.cut(3, 2), (0, (1, 0, 3, 3)))
        self.assertEqual(in_texts(bench.sheets()), [(0, "|3 -1 #0 -2 #2 . -2 #1 .")])
        # Now three by one is the least one.
        self.assertEqual(bench.cut(1, 1), (0, (3, 0, 4, 1)))
        self.assertEqual(bench.cut(1, 1), (0, (3, 1, 4, 2)))
        self.assertEqual(bench.cut(1, 1), (0, (3, 2, 4, 3)))
        self.assertEqual(bench.cut(1, 1), (0, (2, 3, 3, 4)))
        self.assertEqual(bench.offcuts(), [(0, (2, 4, 4, 5)), (0, (3, 3, 4, 4))])
        self.assertEqual(bench.areas(), (20, 3 + 4 + 6 + 4, 3))
        self.assertEqual(in_texts(bench.sheets()),
                         [(0, "|3 -1 #0 -2 #2 |1 #3 |1 #4 #5 -2 #1 |1 -1 #6 . .")])

    def test_a_less_offcut_of_a_later_sheet_comes_first(self):
        bench = Bench([(4, 4)])
        bench.cut(4, 1)
        bench.cut(4, 4)
        bench.cut(4, 3)
        self.assertEqual(bench.offcuts(), [])
        bench = Bench([(4, 4)])
        bench.cut(4, 1)
        bench.cut(2, 4)
        self.assertEqual(bench.offcuts(), [(0, (1, 0, 4, 4)), (1, (0, 2, 4, 4))])
        self.assertEqual(bench.cut(1, 1), (1, (0, 2, 1, 3)))

    def test_of_several_off_the_one_of_the_first_sheet(self):
        bench = Bench([(4, 4)])
        bench.cut(4, 2)
        bench.cut(2, 4)
        self.assertEqual(bench.offcuts(), [(0, (2, 0, 4, 4)), (1, (0, 2, 4, 4))])
        # Eight squares are left of each; the later one comes first by its rectangle.
        self.assertEqual(bench.cut(2, 2), (0, (2, 0, 4, 2)))

    def test_of_these_off_the_first_by_its_rectangle(self):
        bench = Bench([(4, 4)])
        bench.cut(3, 1)
        bench.cut(1, 1)
        bench.cut(3, 2)
        # Three squares each, right of it and below it.
        self.assertEqual(bench.offcuts(), [(0, (1, 3, 4, 4)), (0, (3, 0, 4, 3))])
        self.assertEqual(bench.cut(1, 1), (0, (1, 3, 2, 4)))

    def test_the_offcut_must_hold_it(self):
        bench = Bench([(5, 4)])
        bench.cut(3, 1)
        # The least one is not wide enough.
        self.assertEqual(bench.cut(3, 1), (0, (1, 0, 2, 3)))
        # None is as wide: a new sheet.
        self.assertEqual(bench.cut(4, 1), (1, (0, 0, 1, 4)))
        self.assertEqual([number for number, tree in bench.sheets()], [0, 0])

    def test_a_new_sheet_of_the_least_area(self):
        bench = Bench([(6, 6), (5, 4), (3, 7), (2, 2)])
        self.assertEqual(bench.cut(3, 3), (0, (0, 0, 3, 3)))
        self.assertEqual([number for number, tree in bench.sheets()], [1])
        self.assertEqual(bench.cut(3, 6), (1, (0, 0, 6, 3)))
        self.assertEqual(bench.cut(6, 6), (2, (0, 0, 6, 6)))
        self.assertEqual([number for number, tree in bench.sheets()], [1, 2, 0])

    def test_of_several_sheets_the_first_in_the_list(self):
        for sizes, due in (([(6, 6), (4, 3), (3, 4), (6, 2)], 1), ([(6, 6), (3, 4), (4, 3), (4, 3)], 1),
                           ([(2, 6), (3, 4), (4, 3)], 1), ([(12, 1), (6, 2), (4, 3), (3, 4)], 2), ([(4, 4)] * 4, 0)):
            bench = Bench(sizes)
            bench.cut(3, 3)
            self.assertEqual([number for number, tree in bench.sheets()], [due])

    def test_turned_only_where_it_is_not_held_as_it_is(self):
        bench = Bench([(4, 4)])
        self.assertEqual(bench.cut(3, 2, True), (0, (0, 0, 2, 3)))
        bench = Bench([(2, 5)])
        self.assertEqual(bench.cut(3, 2, True), (0, (0, 0, 3, 2)))
        self.assertEqual(in_texts(bench.sheets()), [(0, "-3 #0 .")])
        bench = Bench([(5, 3)])
        self.assertEqual(bench.cut(1, 4, True), (0, (0, 0, 1, 4)))
        self.assertEqual(in_texts(bench.sheets()), [(0, "|4 -1 #0 . .")])

    def test_the_offcut_of_least_area_though_it_is_turned_there(self):
        bench = Bench([(5, 5)])
        bench.cut(4, 1)
        self.assertEqual(bench.offcuts(), [(0, (0, 4, 5, 5)), (0, (1, 0, 5, 4))])
        # As it is it would be held by four by four; turned by one by five.
        self.assertEqual(bench.cut(3, 1, True), (0, (0, 4, 3, 5)))
        self.assertEqual(bench.cut(3, 1, False), (0, (1, 0, 2, 3)))

    def test_the_sheet_of_least_area_though_it_is_turned_there(self):
        bench = Bench([(4, 4), (2, 5)])
        self.assertEqual(bench.cut(3, 2, True), (0, (0, 0, 3, 2)))
        self.assertEqual(bench.cut(3, 2, False), (1, (0, 0, 2, 3)))
        self.assertEqual([number for number, tree in bench.sheets()], [1, 0])

    def test_an_offcut_ahead_of_a_new_sheet_whatever_its_area(self):
        bench = Bench([(12, 12), (2, 2)])
        bench.cut(3, 3)
        self.assertEqual(bench.cut(2, 2), (0, (3, 0, 5, 2)))
        # Turned off an offcut, ahead of as it is off a new sheet.
        bench = Bench([(3, 5), (4, 2)])
        bench.cut(3, 5)
        bench.cut(1, 5)
        self.assertEqual(bench.cut(4, 2, True), (1, (0, 1, 4, 3)))

    def test_turns_left_out_by_place_and_by_name(self):
        for asked in (lambda bench: bench.cut(3, 1), lambda bench: bench.cut(3, 1, False),
                      lambda bench: bench.cut(3, 1, turns=False), lambda bench: bench.cut(width=3, height=1)):
            bench = Bench([(2, 5)])
            self.refused(NoGlass, ["width", "height"], [3, 1], asked, bench)
        for asked in (lambda bench: bench.cut(3, 1, True), lambda bench: bench.cut(3, 1, turns=True),
                      lambda bench: bench.cut(turns=True, height=1, width=3)):
            self.assertEqual(asked(Bench(sheets=[(2, 5)])), (0, (0, 0, 3, 1)))

    def test_the_pane_s_number_is_its_mark(self):
        bench = Bench([(12, 12)])
        for number in range(60):
            self.assertEqual(bench.cut(1, 1)[0], 0)
        tree = bench.sheets()[0][1]
        marks = [mark for piece, mark in pieces(tree, 12, 12) if mark is not None]
        self.assertEqual(sorted(marks), list(range(60)))

    def test_drawn_panes(self):
        chance = random.Random(24)
        for trial in range(60):
            sizes = [(chance.randint(1, 12), chance.randint(1, 12)) for place in range(chance.randint(1, 4))]
            self.run_beside(sizes, any_panes(chance, 40, chance.choice((2, 3, 5, 8, 12))))

    def test_drawn_panes_on_sheets_of_like_areas(self):
        chance = random.Random(25)
        for sizes in ([(4, 6), (6, 4), (3, 8), (8, 3)], [(12, 1), (6, 2), (4, 3), (3, 4)], [(5, 5)] * 4):
            for trial in range(12):
                self.run_beside(sizes, any_panes(chance, 45, chance.choice((2, 3, 4, 6))))

    def test_sixty_panes_in_good_time(self):
        begin = time.process_time()
        self.run_beside([(12, 12), (7, 9), (3, 3), (1, 12)], any_panes(random.Random(60), 60, 1))
        self.run_beside([(12, 12), (7, 9), (12, 12), (1, 12)], any_panes(random.Random(61), 60, 9))
        self.assertLess(time.process_time() - begin, 10)


class TestRefused(BenchCase):
    def test_no_sheets_or_too_many(self):
        self.refused(TooMany, ["many"], [0], Bench, [])
        for many in (5, 6, 40):
            self.refused(TooMany, ["many"], [many], Bench, [(5, 5)] * many)
            self.refused(TooMany, ["many"], [many], Bench, [Touchy()] * many)
        Bench([(5, 5)] * 4).cut(5, 5)

    def test_no_sheet_of_anything(self):
        for thing in NO_SHEETS:
            self.refused(NoSheet, ["place"], [0], Bench, [thing])
            self.refused(NoSheet, ["place"], [1], Bench, [(5, 5), thing, (5, 5), thing])
            self.refused(NoSheet, ["place"], [3], Bench, [(5, 5)] * 3 + [thing])

    def test_sheets_at_the_edges(self):
        for width, height in ((1, 1), (12, 12), (1, 12), (12, 1)):
            self.assertEqual(Bench([(width, height)]).cut(width, height), (0, (0, 0, height, width)))

    def test_no_side_of_anything(self):
        bench = Bench([(3, 3)])
        bench.cut(2, 2)
        due = all_told(bench)
        for thing in NO_SIDES:
            for turns in (False, True):
                self.refused_itself(NoSide, "side", thing, bench.cut, thing, 1, turns)
                self.refused_itself(NoSide, "side", thing, bench.cut, 1, thing, turns)
                self.refused_itself(NoSide, "side", thing, bench.cut, thing, 0, turns)
                self.refused_itself(NoSide, "side", 13, bench.cut, 13, thing, turns)
        self.assertEqual(all_told(bench), due)

    def test_no_glass_as_it_was_asked(self):
        bench = Bench([(3, 5), (4, 2)])
        for again in range(3):
            due = all_told(bench)
            for width, height, turns in ((4, 3, False), (5, 3, False), (4, 4, True), (12, 12, True), (6, 1, True),
                                         (1, 6, True), (2, 6, False), (5, 2, False)):
                self.refused(NoGlass, ["width", "height"], [width, height], bench.cut, width, height, turns)
                self.assertEqual(all_told(bench), due)
            bench.cut(4, 3, True)

    def test_sixty_panes_at_most(self):
        bench = Bench([(1, 1), (2, 2)])
        for number in range(60):
            self.assertEqual(bench.cut(1, 1), (number, (0, 0, 1, 1)))
        due = all_told(bench)
        self.assertEqual(due, ([(0, f"#{number}") for number in range(60)], [], (60, 60, 0)))
        for again in range(3):
            self.refused(TooMany, ["many"], [61], bench.cut, 1, 1)
            self.refused(TooMany, ["many"], [61], bench.cut, 2, 1, True)
            # Ahead of the glass that isn't there, and behind the sides.
            self.refused(TooMany, ["many"], [61], bench.cut, 12, 12)
            self.refused(NoSide, ["side"], [0], bench.cut, 0, 1)
            self.refused(NoSide, ["side"], [13], bench.cut, 1, 13)
            self.assertEqual(all_told(bench), due)

    def test_what_is_refused_is_not_among_the_sixty(self):
        bench = Bench([(2, 2)])
        for number in range(60):
            self.refused(NoGlass, ["width", "height"], [3, 1], bench.cut, 3, 1)
            self.refused(NoSide, ["side"], [0], bench.cut, 1, 0)
            bench.cut(1, 1, True)
        self.refused(TooMany, ["many"], [61], bench.cut, 1, 1)
        marks = [mark for number, tree in bench.sheets() for piece, mark in pieces(tree, 2, 2)]
        self.assertEqual(sorted(marks), list(range(60)))

    def test_what_is_refused_has_no_number(self):
        bench = Bench([(3, 2)])
        self.refused(NoGlass, ["width", "height"], [2, 3], bench.cut, 2, 3)
        bench.cut(1, 2)
        self.refused(NoGlass, ["width", "height"], [2, 3], bench.cut, 2, 3)
        self.refused(NoSide, ["side"], [True], bench.cut, True, 1)
        bench.cut(1, 2)
        self.assertEqual(in_texts(bench.sheets()), [(0, "|1 #0 |1 #1 .")])


class TestOnesOwn(BenchCase):
    def test_the_list_handed_in_is_copied_and_not_changed(self):
        sizes = [(3, 3), (5, 5)]
        bench = Bench(sizes)
        sizes[0] = (1, 1)
        bench.cut(2, 2)
        sizes.clear()
        self.assertEqual(bench.cut(4, 4), (1, (0, 0, 4, 4)))
        self.assertEqual(bench.areas(), (34, 20, 14))
        self.assertEqual(sizes, [])
        sizes = [(3, 3), (5, 5)]
        bench = Bench(sizes)
        bench.cut(2, 2)
        bench.cut(4, 4)
        self.assertEqual(sizes, [(3, 3), (5, 5)])

    def test_what_was_told_earlier_stays_as_it_was(self):
        bench = Bench([(5, 4)])
        sheets, offcuts, areas = bench.sheets(), bench.offcuts(), bench.areas()
        bench.cut(3, 1)
        self.assertEqual((sheets, offcuts, areas), ([], [], (0, 0, 0)))
        sheets, offcuts, areas = bench.sheets(), bench.offcuts(), bench.areas()
        bench.cut(2, 2)
        bench.cut(5, 4)
        self.assertEqual(in_texts(sheets), [(0, "|3 -1 #0 . .")])
        self.assertEqual(offcuts, [(0, (0, 3, 4, 5)), (0, (1, 0, 4, 3))])
        self.assertEqual(areas, (20, 3, 17))

    def test_what_is_done_to_it_changes_nothing(self):
        bench, beside = Bench([(5, 4), (7, 7)]), Bench([(5, 4), (7, 7)])
        for width, height, turns in any_panes(random.Random(2), 30, 4):
            self.assertEqual(bench.cut(width, height, turns), beside.cut(width, height, turns))
            bench.sheets().clear()
            bench.offcuts().clear()
            bench.sheets().append((0, Whole()))
            bench.offcuts().reverse()
            self.assertEqual(all_told(bench), all_told(beside))

    def test_trees_have_no_parts_in_common(self):
        def parts(some):
            return [some] if isinstance(some, Whole) else [some] + parts(some.first) + parts(some.other)

        bench = Bench([(4, 4)])
        for number in range(5):
            bench.cut(3, 2)
        told = bench.sheets() + bench.sheets()
        known = [id(part) for number, tree in told for part in parts(tree)]
        self.assertEqual(len(known), len(set(known)))

    def test_two_benches_beside_one_another(self):
        sizes = [(6, 5), (4, 4)]
        one, other = Bench(sizes), Bench(sizes)
        some = any_panes(random.Random(3), 25, 4)
        for width, height, turns in some:
            one.cut(width, height, turns)
        self.assertEqual(all_told(other), ([], [], (0, 0, 0)))
        due = all_told(one)
        for width, height, turns in some:
            other.cut(width, height, turns)
        self.assertEqual(all_told(one), due)
        self.assertEqual(all_told(other), due)

    def test_kinds(self):
        bench = Bench([(6, 5), (4, 4)])
        for width, height, turns in any_panes(random.Random(4), 25, 4):
            told = bench.cut(width, height, turns)
            self.assertIs(type(told), tuple)
            self.assertIs(type(told[0]), int)
            self.assertIs(type(told[1]), tuple)
            self.assertEqual([type(part) for part in told[1]], [int] * 4)
            self.check_kinds(bench)


if __name__ == "__main__":
    unittest.main()
