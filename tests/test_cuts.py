"""Trees of cuts, their pieces and panels [2, 7, 8, the interface]."""

import itertools
import unittest

from glazebench.cuts import Level, Tree, Upright, Whole, panel_of, pieces
from glazebench.errors import GlassError, NoCut, NoSide, TooMany
from glazebench.panels import Panel


class Touchy:
    """A thing that fails wherever it is compared, counted or written out."""

    def fail(self, *things):
        raise RuntimeError("touched")

    __eq__ = __lt__ = __le__ = __gt__ = __ge__ = fail
    __len__ = __iter__ = __getitem__ = __int__ = __index__ = __bool__ = __repr__ = fail
    __hash__ = None


ENDLESS = []
ENDLESS.append(ENDLESS)

NO_SIDES = [None, True, False, 0, -1, 13, 10 ** 5000, -10 ** 5000, 0.5, 3.0, float("nan"), 2j, "", "3", b"3", [], [3],
            (), (3,), {}, {1: 2}, set(), range(4), object(), int, len, Whole(), Touchy(), ENDLESS]


def strip(kind, many, part=None):
    """So many pieces in a row, each cut off by a cut at 1, the first ones first; the same object for each."""
    part = Whole() if part is None else part
    tree = part
    for count in range(many - 1):
        tree = kind(1, part, tree)
    return tree


def chain(kind, many, at=1):
    """A tree of so many leaves with all cuts in the first parts: one cut deeper with each leaf."""
    tree = Whole(0)
    for mark in range(1, many):
        tree = kind(at, tree, Whole(mark))
    return tree


def halved(width, height):
    """A sheet cut up into its squares, each piece through its middle; no object stands in it twice."""
    if width > 1:
        return Upright(width // 2, halved(width // 2, height), halved(width - width // 2, height))
    if height > 1:
        return Level(height // 2, halved(1, height // 2), halved(1, height - height // 2))
    return Whole()


def parts(tree):
    if isinstance(tree, Whole):
        return [tree]
    return [tree] + parts(tree.first) + parts(tree.other)


# Trees told once more, as plain tuples: ("whole", mark) or (kind, at, first, other).

def made(plain):
    if plain[0] == "whole":
        return Whole(plain[1])
    return {"upright": Upright, "level": Level}[plain[0]](plain[1], made(plain[2]), made(plain[3]))


def plain_of(tree):
    if type(tree) is Whole:
        return ("whole", tree.mark)
    return ({Upright: "upright", Level: "level"}[type(tree)], tree.at, plain_of(tree.first), plain_of(tree.other))


def plain_turned(plain):
    if plain[0] == "whole":
        return plain
    kind = {"upright": "level", "level": "upright"}[plain[0]]
    return (kind, plain[1], plain_turned(plain[2]), plain_turned(plain[3]))


def plain_leaves(plain):
    return 1 if plain[0] == "whole" else plain_leaves(plain[2]) + plain_leaves(plain[3])


def plain_depth(plain):
    return 0 if plain[0] == "whole" else 1 + max(plain_depth(plain[2]), plain_depth(plain[3]))


class Misfit(Exception):
    pass


def plain_pieces(plain, rows, columns):
    """Point 8 told once more, over lists of rows and columns; Misfit with the first cut that isn't within."""
    if plain[0] == "whole":
        return [((rows[0], columns[0], rows[-1] + 1, columns[-1] + 1), plain[1])]
    kind, at, first, other = plain
    if at not in range(1, len(columns if kind == "upright" else rows)):
        raise Misfit(at)
    if kind == "upright":
        return plain_pieces(first, rows, columns[:at]) + plain_pieces(other, rows, columns[at:])
    return plain_pieces(first, rows[:at], columns) + plain_pieces(other, rows[at:], columns)


def plain_trees(cuts, places, marks):
    """All plain trees with just so many cuts."""
    if cuts == 0:
        return [("whole", mark) for mark in marks]
    found = []
    for before in range(cuts):
        firsts = plain_trees(before, places, marks)
        others = plain_trees(cuts - 1 - before, places, marks)
        found += list(itertools.product(("upright", "level"), places, firsts, others))
    return found


SMALL = plain_trees(0, (), (None, 0, 5))
SMALL += plain_trees(1, (-1, 0, 1, 2, 3), (None, 0))
SMALL += plain_trees(2, (0, 1, 2), (None, 0))
SMALL += plain_trees(3, (1, 2), (None,))


class TestClasses(unittest.TestCase):
    def test_whole_keeps_its_mark(self):
        self.assertIsNone(Whole().mark)
        self.assertIsNone(Whole(None).mark)
        self.assertEqual(Whole(0).mark, 0)
        self.assertIsNotNone(Whole(0).mark)
        self.assertEqual(Whole(999).mark, 999)
        self.assertEqual(Whole(mark=5).mark, 5)

    def test_cuts_keep_their_place_and_the_very_parts(self):
        first, other = Whole(1), Whole(2)
        for kind in (Upright, Level):
            for tree in (kind(3, first, other), kind(at=3, first=first, other=other)):
                self.assertEqual(tree.at, 3)
                self.assertIs(tree.first, first)
                self.assertIs(tree.other, other)

    def test_each_is_a_tree_and_of_one_class_alone(self):
        classes = (Whole, Upright, Level)
        trees = (Whole(), Upright(1, Whole(), Whole()), Level(1, Whole(), Whole()))
        for own, tree in zip(classes, trees):
            self.assertIsInstance(tree, Tree)
            self.assertIs(type(tree), own)
            self.assertEqual([isinstance(tree, kind) for kind in classes], [kind is own for kind in classes])

    def test_none_of_the_classes_stands_under_another_one_but_tree(self):
        for one, other in itertools.permutations((Whole, Upright, Level), 2):
            self.assertFalse(issubclass(one, other))
            self.assertFalse(issubclass(Tree, other))


class TestMethods(unittest.TestCase):
    def test_leaves_and_depth(self):
        self.assertEqual((Whole().leaves(), Whole().depth()), (1, 0))
        self.assertEqual((Whole(0).leaves(), Whole(0).depth()), (1, 0))
        self.assertEqual((Upright(1, Whole(), Whole()).leaves(), Level(1, Whole(), Whole()).depth()), (2, 1))
        lopsided = Upright(1, Whole(), Level(2, Upright(1, Whole(), Whole()), Whole()))
        self.assertEqual((lopsided.leaves(), lopsided.depth()), (4, 3))
        mirrored = Upright(1, Level(2, Whole(), Upright(1, Whole(), Whole())), Whole())
        self.assertEqual((mirrored.leaves(), mirrored.depth()), (4, 3))

    def test_every_small_tree(self):
        for plain in SMALL:
            tree = made(plain)
            self.assertEqual(tree.leaves(), plain_leaves(plain))
            self.assertEqual(tree.depth(), plain_depth(plain))
            self.assertEqual(plain_of(tree.turned()), plain_turned(plain))
            self.assertEqual(plain_of(tree.turned().turned()), plain)
            self.assertEqual(plain_of(tree), plain)

    def test_turned(self):
        tree = Upright(3, Level(2, Whole(7), Whole(0)), Whole())
        turned = tree.turned()
        self.assertEqual(plain_of(turned),
                         ("level", 3, ("upright", 2, ("whole", 7), ("whole", 0)), ("whole", None)))

    def test_turned_is_new_in_all_its_parts(self):
        tree = Upright(3, Level(2, Whole(7), Whole(0)), Whole())
        handed = parts(tree)
        told = parts(tree.turned()) + parts(tree.turned())
        self.assertEqual(len({id(part) for part in handed + told}), 15)
        whole = Whole(4)
        self.assertIsNot(whole.turned(), whole)
        self.assertEqual(whole.turned().mark, 4)

    def test_turned_leaves_the_tree_as_it_was(self):
        first, other = Level(2, Whole(7), Whole(0)), Whole()
        tree = Upright(3, first, other)
        tree.turned()
        self.assertIs(tree.first, first)
        self.assertIs(tree.other, other)
        self.assertEqual(plain_of(tree),
                         ("upright", 3, ("level", 2, ("whole", 7), ("whole", 0)), ("whole", None)))

    def test_same(self):
        trees = [made(plain) for plain in SMALL[:400]]
        copies = [made(plain) for plain in SMALL[:400]]
        for one, tree in enumerate(trees):
            for other, like in enumerate(copies):
                if tree.same(like) is not (one == other):
                    self.fail((SMALL[one], SMALL[other]))

    def test_same_either_way_round(self):
        pairs = (
            (Whole(), Whole(0)), (Whole(0), Whole(1)), (Whole(), Upright(1, Whole(), Whole())),
            (Upright(1, Whole(), Whole()), Level(1, Whole(), Whole())),
            (Upright(1, Whole(), Whole()), Upright(2, Whole(), Whole())),
            (Upright(1, Whole(1), Whole(2)), Upright(1, Whole(2), Whole(1))),
            (Upright(1, Whole(), Whole()), Upright(1, Whole(), Whole(0))),
            (Upright(2, Upright(1, Whole(), Whole()), Whole()), Upright(1, Whole(), Upright(1, Whole(), Whole()))),
            (Upright(1, Upright(1, Whole(), Whole()), Whole()), Upright(1, Whole(), Upright(1, Whole(), Whole()))),
        )
        for one, other in pairs:
            self.assertIs(one.same(other), False)
            self.assertIs(other.same(one), False)
            self.assertIs(one.same(other=one), True)
            self.assertIs(other.same(other), True)

    def test_same_of_one_object_twice_and_of_two_objects(self):
        part = Level(1, Whole(3), Whole())
        apart = Upright(2, Level(1, Whole(3), Whole()), Level(1, Whole(3), Whole()))
        self.assertIs(Upright(2, part, part).same(apart), True)
        self.assertIs(apart.same(Upright(2, part, part)), True)
        self.assertIs(Upright(2, part, part).same(Upright(2, part, Whole())), False)


class TestFits(unittest.TestCase):
    def test_every_small_tree(self):
        for plain in SMALL:
            tree = made(plain)
            for width, height in itertools.product((1, 2, 3), repeat=2):
                try:
                    plain_pieces(plain, list(range(height)), list(range(width)))
                except Misfit:
                    due = False
                else:
                    due = True
                self.assertIs(tree.fits(width, height), due, (plain, width, height))

    def test_the_very_edges(self):
        for side in range(1, 13):
            for at in list(range(-3, 16)) + [-10 ** 30, 10 ** 30]:
                due = 1 <= at < side
                self.assertIs(Upright(at, Whole(), Whole()).fits(side, 12), due, (at, side))
                self.assertIs(Upright(at, Whole(), Whole()).fits(side, 1), due, (at, side))
                self.assertIs(Level(at, Whole(), Whole()).fits(12, side), due, (at, side))
                self.assertIs(Level(at, Whole(), Whole()).fits(width=1, height=side), due, (at, side))

    def test_a_whole_piece_fits_all_sides(self):
        for width, height in itertools.product(range(1, 13), repeat=2):
            self.assertIs(Whole(3).fits(width, height), True)

    def test_a_part_has_its_own_width_and_height(self):
        inner = Upright(2, Whole(), Whole())
        self.assertIs(Upright(3, inner, Whole()).fits(4, 1), True)
        self.assertIs(Upright(2, inner, Whole()).fits(12, 1), False)
        self.assertIs(Upright(3, Whole(), inner).fits(6, 1), True)
        self.assertIs(Upright(3, Whole(), inner).fits(5, 1), False)
        self.assertIs(Level(3, inner, inner).fits(3, 4), True)
        self.assertIs(Level(3, inner, inner).fits(2, 4), False)

    def test_sides_somewhat_beyond_are_not_refused(self):
        self.assertIs(Upright(12, Whole(), Whole()).fits(13, 1), True)
        self.assertIs(Level(13, Whole(), Whole()).fits(14, 13), False)


class TestOneObjectTwice(unittest.TestCase):
    def setUp(self):
        self.leaf = Whole(5)
        tree = self.leaf
        for at in (1, 2, 4):
            tree = Level(at, tree, tree)
            tree = Upright(at, tree, tree)
        self.tree = tree
        self.units = [(row, column, row + 1, column + 1) for row in range(8) for column in range(8)]

    def test_methods(self):
        self.assertEqual((self.tree.leaves(), self.tree.depth()), (64, 6))
        self.assertIs(self.tree.fits(8, 8), True)
        self.assertIs(self.tree.fits(7, 8), False)
        self.assertIs(self.tree.fits(12, 12), True)
        turned = self.tree.turned()
        self.assertEqual(plain_of(turned), plain_turned(plain_of(self.tree)))
        self.assertNotIn(id(self.leaf), [id(part) for part in parts(turned)])
        self.assertIs(turned.same(self.tree), False)
        self.assertIs(turned.turned().same(self.tree), True)

    def test_a_piece_for_each_leaf(self):
        self.assertEqual(pieces(self.tree, 8, 8), [(unit, 5) for unit in self.units])
        far = pieces(self.tree, 12, 12)
        self.assertEqual(len(far), 64)
        self.assertEqual(far[-1], ((7, 7, 12, 12), 5))

    def test_a_part_that_fits_in_one_place_and_not_in_the_other(self):
        part = Upright(2, Whole(), Whole())
        self.assertIs(Upright(3, part, part).fits(6, 1), True)
        self.assertIs(Upright(3, part, part).fits(5, 1), False)
        self.assertIs(Upright(2, part, part).fits(6, 1), False)
        with self.assertRaises(NoCut) as caught:
            pieces(Upright(3, part, part), 5, 1)
        self.assertEqual(caught.exception.at, 2)

    def test_a_whole_piece_as_both_parts(self):
        self.assertEqual(pieces(Upright(1, self.leaf, self.leaf), 3, 2), [((0, 0, 2, 1), 5), ((0, 1, 2, 3), 5)])
        self.assertEqual(pieces(Level(1, self.leaf, self.leaf), 3, 2), [((0, 0, 1, 3), 5), ((1, 0, 2, 3), 5)])


class TestBounds(unittest.TestCase):
    def all_squares_of_the_greatest_sheet(self):
        """The sheet of 12 by 12 cut up into its squares: with parts of one object, and with no object twice."""
        return (strip(Upright, 12, strip(Level, 12)), strip(Level, 12, strip(Upright, 12)), halved(12, 12))

    def test_all_squares_of_the_greatest_sheet(self):
        units = [((row, column, row + 1, column + 1), None) for row in range(12) for column in range(12)]
        for tree in self.all_squares_of_the_greatest_sheet():
            self.assertEqual(tree.leaves(), 144)
            self.assertIs(tree.fits(12, 12), True)
            self.assertIs(tree.fits(11, 12), False)
            self.assertIs(tree.fits(12, 11), False)
            self.assertEqual(pieces(tree, 12, 12), units)
            self.assertEqual(tree.turned().leaves(), 144)
            self.assertEqual(pieces(tree.turned(), 12, 12), units)
            self.assertIs(tree.turned().turned().same(tree), True)
            with self.assertRaises(TooMany) as caught:
                panel_of(tree, 12, 12)
            self.assertEqual(caught.exception.many, 144)

    def test_depth_of_trees_that_fit(self):
        self.assertEqual([tree.depth() for tree in self.all_squares_of_the_greatest_sheet()], [22, 22, 8])

    def test_trees_as_deep_as_they_have_cuts(self):
        for many in (52, 144, 160):
            for tree in (chain(Upright, many), chain(Level, many), strip(Upright, many), strip(Level, many)):
                self.assertEqual((tree.leaves(), tree.depth()), (many, many - 1))
                self.assertIs(tree.fits(12, 12), False)
                self.assertIs(tree.same(tree.turned()), False)
                self.assertIs(tree.same(tree.turned().turned()), True)
                with self.assertRaises(NoCut) as caught:
                    pieces(tree, 12, 12)
                self.assertEqual(caught.exception.at, 1)
                with self.assertRaises(NoCut):
                    panel_of(tree, 12, 12)


class RefusalCase(unittest.TestCase):
    def refused(self, kind, name, value, asked, tree, width, height):
        with self.assertRaises(GlassError) as caught:
            asked(tree, width, height)
        self.assertIs(type(caught.exception), kind)
        told = getattr(caught.exception, name)
        if kind is NoSide:
            self.assertIs(told, value)
        else:
            self.assertEqual((told, type(told)), (value, type(value)))


class TestPieces(RefusalCase):
    def test_a_whole_sheet(self):
        self.assertEqual(pieces(Whole(), 3, 2), [((0, 0, 2, 3), None)])
        self.assertEqual(pieces(Whole(0), 12, 12), [((0, 0, 12, 12), 0)])
        self.assertEqual(pieces(tree=Whole(999), width=1, height=1), [((0, 0, 1, 1), 999)])

    def test_an_upright_and_a_level_cut(self):
        self.assertEqual(pieces(Upright(2, Whole(1), Whole(2)), 5, 3), [((0, 0, 3, 2), 1), ((0, 2, 3, 5), 2)])
        self.assertEqual(pieces(Level(2, Whole(1), Whole(2)), 5, 3), [((0, 0, 2, 5), 1), ((2, 0, 3, 5), 2)])

    def test_the_one_of_the_document(self):
        tree = Upright(2, Whole(), Level(1, Whole(0), Whole()))
        due = [((0, 0, 3, 2), None), ((0, 2, 1, 5), 0), ((1, 2, 3, 5), None)]
        self.assertEqual(pieces(tree, 5, 3), due)

    def test_sorted_by_rectangles_not_as_they_are_cut(self):
        tree = Upright(1, Level(1, Whole(3), Whole(2)), Level(2, Whole(1), Whole(0)))
        due = [((0, 0, 1, 1), 3), ((0, 1, 2, 2), 1), ((1, 0, 3, 1), 2), ((2, 1, 3, 2), 0)]
        self.assertEqual(pieces(tree, 2, 3), due)

    def test_sorted_as_numbers_with_all_sorts_of_marks(self):
        tree = strip(Upright, 12, Level(1, Whole(3), Whole()))
        due = [((0, column, 1, column + 1), 3) for column in range(12)]
        due += [((1, column, 2, column + 1), None) for column in range(12)]
        self.assertEqual(pieces(tree, 12, 2), due)

    def test_every_small_tree(self):
        for plain in SMALL:
            for width, height in itertools.product((1, 2, 3), repeat=2):
                self.check_small(plain, width, height)

    def check_small(self, plain, width, height):
        tree = made(plain)
        try:
            due = sorted(plain_pieces(plain, list(range(height)), list(range(width))))
        except Misfit as misfit:
            self.refused(NoCut, "at", misfit.args[0], pieces, tree, width, height)
            self.refused(NoCut, "at", misfit.args[0], panel_of, tree, width, height)
        else:
            self.assertEqual(pieces(tree, width, height), due)
            panel = panel_of(tree, width, height)
            self.assertIsInstance(panel, Panel)
            self.assertEqual((panel.width, panel.height), (width, height))
            self.assertEqual(panel.panes(), [rectangle for rectangle, mark in due])
        self.assertEqual(plain_of(tree), plain)

    def test_kinds_of_what_is_told(self):
        told = pieces(Upright(2, Whole(1), Whole()), 5, 3)
        self.assertIs(type(told), list)
        self.assertEqual([type(piece) for piece in told], [tuple, tuple])
        self.assertEqual([type(rectangle) for rectangle, mark in told], [tuple, tuple])

    def test_the_same_again_behind_a_change_of_the_list_told(self):
        tree = Upright(2, Whole(1), Whole())
        told = pieces(tree, 5, 3)
        kept = list(told)
        again = pieces(tree, 5, 3)
        self.assertIsNot(told, again)
        told.reverse()
        told.pop()
        self.assertEqual(again, kept)
        self.assertEqual(pieces(tree, 5, 3), kept)
        self.assertEqual(plain_of(tree), ("upright", 2, ("whole", 1), ("whole", None)))


class TestPiecesRefused(RefusalCase):
    def test_no_side_of_anything(self):
        for asked in (pieces, panel_of):
            for thing in NO_SIDES:
                self.refused(NoSide, "side", thing, asked, Whole(), thing, 1)
                self.refused(NoSide, "side", thing, asked, Whole(), 1, thing)

    def test_no_side_the_width_ahead_of_the_height(self):
        for asked in (pieces, panel_of):
            for one, other in ((0, 13), (13, 0), (None, True), ("3", None)):
                self.refused(NoSide, "side", one, asked, Whole(), one, other)

    def test_no_side_ahead_of_no_cut_and_too_many(self):
        for asked in (pieces, panel_of):
            for tree in (Upright(0, Whole(), Whole()), Level(99, Whole(), Whole()), chain(Level, 144)):
                self.refused(NoSide, "side", 13, asked, tree, 13, 1)
                self.refused(NoSide, "side", 0, asked, tree, 12, 0)
            self.refused(NoSide, "side", 13, asked, strip(Upright, 12, strip(Level, 12)), 13, 12)

    def test_no_cut_at_the_very_edges(self):
        for asked in (pieces, panel_of):
            for at in (0, -1, -1000, -10 ** 30, 3, 4, 12, 10 ** 30):
                self.refused(NoCut, "at", at, asked, Upright(at, Whole(), Whole()), 3, 12)
                self.refused(NoCut, "at", at, asked, Level(at, Whole(), Whole()), 12, 3)

    def test_no_cut_a_trees_own_ahead_of_its_parts(self):
        bad = Level(31, Whole(), Whole())
        worse = Level(32, bad, bad)
        for asked in (pieces, panel_of):
            self.refused(NoCut, "at", 30, asked, Upright(30, bad, bad), 5, 5)
            self.refused(NoCut, "at", 32, asked, worse, 5, 5)
            self.refused(NoCut, "at", 32, asked, Upright(1, worse, bad), 5, 5)

    def test_no_cut_the_first_part_ahead_of_the_other_one(self):
        one, two = Level(31, Whole(), Whole()), Level(32, Whole(), Whole())
        good = Level(1, Whole(), Whole())
        for asked in (pieces, panel_of):
            self.refused(NoCut, "at", 31, asked, Upright(1, one, two), 5, 5)
            self.refused(NoCut, "at", 32, asked, Upright(1, two, one), 5, 5)
            self.refused(NoCut, "at", 31, asked, Upright(1, good, one), 5, 5)
            self.refused(NoCut, "at", 31, asked, Level(2, Upright(2, good, Upright(1, Whole(), Whole())), one), 5, 3)
            # Deep in the first part comes ahead of the other part's own cut.
            deep = Upright(2, Whole(), Upright(1, Whole(), one))
            self.refused(NoCut, "at", 31, asked, Level(3, deep, two), 5, 5)

    def test_no_cut_of_a_part_by_its_own_width_and_height(self):
        for asked in (pieces, panel_of):
            self.refused(NoCut, "at", 2, asked, Upright(2, Upright(2, Whole(), Whole()), Whole()), 12, 1)
            self.refused(NoCut, "at", 3, asked, Upright(2, Whole(), Upright(3, Whole(), Whole())), 5, 1)
            self.refused(NoCut, "at", 3, asked, Level(2, Whole(), Level(3, Whole(), Whole())), 1, 5)


class TestPanelOf(RefusalCase):
    def rows(self, last):
        """Four rows of twelve squares, and a last row of so many pieces."""
        tree = strip(Upright, last)
        for count in range(4):
            tree = Level(1, strip(Upright, 12), tree)
        return tree

    def test_fifty_two_pieces(self):
        tree = self.rows(4)
        panel = panel_of(tree=tree, width=12, height=5)
        self.assertEqual(len(panel.panes()), 52)
        self.assertEqual(panel.panes(), [rectangle for rectangle, mark in pieces(tree, 12, 5)])

    def test_fifty_three_pieces(self):
        self.assertEqual(len(pieces(self.rows(5), 12, 5)), 53)
        self.refused(TooMany, "many", 53, panel_of, self.rows(5), 12, 5)

    def test_too_many_behind_no_cut(self):
        self.refused(NoCut, "at", 1, panel_of, self.rows(5), 12, 4)
        self.refused(NoCut, "at", 1, panel_of, self.rows(13), 12, 5)
        self.refused(NoCut, "at", 1, panel_of, self.rows(5), 11, 5)

    def test_marks_are_nothing_to_the_panel(self):
        panel = panel_of(Upright(1, Whole(4), Whole()), 2, 1)
        self.assertEqual(panel.panes(), [(0, 0, 1, 1), (0, 1, 1, 2)])

    def test_a_new_panel_each_time(self):
        tree = Upright(1, Whole(), Whole())
        one = panel_of(tree, 2, 1)
        self.assertIsNot(one, panel_of(tree, 2, 1))
        one.panes().clear()
        self.assertEqual(one.panes(), panel_of(tree, 2, 1).panes())

    def test_the_panel_of_a_tree_turned_is_its_panel_turned(self):
        tree = Upright(2, Level(1, Whole(), Whole()), Level(2, Whole(), Upright(1, Whole(), Whole())))
        self.assertEqual(panel_of(tree.turned(), 3, 4).panes(), panel_of(tree, 4, 3).turned().panes())


if __name__ == "__main__":
    unittest.main()
