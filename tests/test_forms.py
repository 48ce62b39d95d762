"""The form of a tree, and trees that are alike [2, 3, 14, the interface]."""

import itertools
import random
import unittest

from glazebench.cuts import Level, Tree, Upright, Whole, panel_of, pieces
from glazebench.errors import GlassError, NoCut, NoSide
from glazebench.forms import alike, form
from glazebench.rooms import tree_of


class Touchy:
    """A thing that fails wherever it is compared, counted or written out."""

    def fail(self, *things):
        raise RuntimeError("touched")

    __eq__ = __lt__ = __le__ = __gt__ = __ge__ = fail
    __len__ = __iter__ = __getitem__ = __int__ = __index__ = __bool__ = __repr__ = fail
    __hash__ = None


NO_SIDES = [None, True, False, 0, -1, 13, 10 ** 5000, -10 ** 5000, 0.5, 3.0, float("nan"), 2j, "", "3", b"3", [], [3],
            (), (3,), {}, {1: 2}, set(), range(4), object(), int, len, Whole(), Touchy()]


def strip(kind, many, part=None):
    """So many pieces in a row, each cut off by a cut at 1, the first ones first; the same object for each."""
    part = Whole() if part is None else part
    tree = part
    for count in range(many - 1):
        tree = kind(1, part, tree)
    return tree


def strip_from_behind(kind, many, part=None):
    """The same pieces, the last ones cut off first."""
    part = Whole() if part is None else part
    tree = part
    for at in range(1, many):
        tree = kind(at, tree, part)
    return tree


def halved(width, height, mark=None):
    """A sheet cut up into its squares, each piece through its middle; no object stands in it twice."""
    if height > 1 and height >= width:
        return Level(height // 2, halved(width, height // 2, mark), halved(width, height - height // 2, mark))
    if width > 1:
        return Upright(width // 2, halved(width // 2, height, mark), halved(width - width // 2, height, mark))
    return Whole(mark)


def squares_of_the_greatest_sheet(kind_first, kind_then):
    return [strip(kind_first, 12, strip(kind_then, 12)), strip(kind_first, 12, strip_from_behind(kind_then, 12)),
            strip_from_behind(kind_first, 12, strip(kind_then, 12)),
            strip_from_behind(kind_first, 12, strip_from_behind(kind_then, 12))]


def parts(tree):
    if isinstance(tree, Whole):
        return [tree]
    return [tree] + parts(tree.first) + parts(tree.other)


# Trees told once more, as plain tuples: ("whole", mark) or (kind, at, first, other).

def made(plain):
    if plain[0] == "whole":
        return Whole(plain[1])
    return {"upright": Upright, "level": Level}[plain[0]](plain[1], made(plain[2]), made(plain[3]))


def plain_of(tree):
    if type(tree) is Whole:
        return ("whole", tree.mark)
    return ({Upright: "upright", Level: "level"}[type(tree)], tree.at, plain_of(tree.first), plain_of(tree.other))


def all_trees(width, height, marks=(None,)):
    """All plain trees that fit this size."""
    found = [("whole", mark) for mark in marks]
    for at in range(1, width):
        firsts, others = all_trees(at, height, marks), all_trees(width - at, height, marks)
        found += [("upright", at, first, other) for first, other in itertools.product(firsts, others)]
    for at in range(1, height):
        firsts, others = all_trees(width, at, marks), all_trees(width, height - at, marks)
        found += [("level", at, first, other) for first, other in itertools.product(firsts, others)]
    return found


def any_tree(chance, width, height):
    """Any one plain tree that fits this size, with all sorts of marks."""
    cuts = [("upright", at) for at in range(1, width)] + [("level", at) for at in range(1, height)]
    if not cuts or chance.random() < 0.1:
        return ("whole", chance.choice((None, 0, 1, 999)))
    kind, at = chance.choice(cuts)
    if kind == "upright":
        return (kind, at, any_tree(chance, at, height), any_tree(chance, width - at, height))
    return (kind, at, any_tree(chance, width, at), any_tree(chance, width, height - at))


def plain_pieces(plain, top, left, bottom, right):
    if plain[0] == "whole":
        return [((top, left, bottom, right), plain[1])]
    kind, at, first, other = plain
    if kind == "upright":
        return (plain_pieces(first, top, left, bottom, left + at)
                + plain_pieces(other, top, left + at, bottom, right))
    return plain_pieces(first, top, left, top + at, right) + plain_pieces(other, top + at, left, bottom, right)


def form_due(some):
    """Point 14 told once more: the plain tree of these pieces, cut as point 13 tells."""
    if len(some) == 1:
        return ("whole", some[0][1])
    for word, low, high in (("upright", 1, 3), ("level", 0, 2)):
        begin = min(pane[low] for pane, mark in some)
        for line in range(begin + 1, max(pane[high] for pane, mark in some)):
            ahead = [piece for piece in some if piece[0][high] <= line]
            behind = [piece for piece in some if piece[0][low] >= line]
            if len(ahead) + len(behind) == len(some):
                return (word, line - begin, form_due(ahead), form_due(behind))
    raise AssertionError("a room")


class FormCase(unittest.TestCase):
    def refused(self, kind, name, value, asked, *things):
        with self.assertRaises(GlassError) as caught:
            asked(*things)
        self.assertIs(type(caught.exception), kind)
        self.assertIs(getattr(caught.exception, name), value)

    def check_form(self, tree, width, height, due):
        self.assertEqual(plain_of(form(tree, width, height)), plain_of(due))


class TestForm(FormCase):
    def test_a_whole_piece(self):
        for mark in (None, 0, 1, 999):
            told = form(tree=Whole(mark), width=12, height=1)
            self.assertIs(type(told), Whole)
            self.assertEqual(plain_of(told), ("whole", mark))

    def test_trees_that_are_forms_already(self):
        for tree, width, height in (
                (Upright(2, Whole(), Whole(3)), 5, 1), (Level(2, Whole(0), Whole()), 1, 5),
                (Upright(1, Whole(0), Upright(2, Whole(1), Whole(2))), 5, 2),
                (Upright(1, Level(1, Whole(0), Whole(1)), Level(1, Whole(2), Whole(3))), 2, 2),
                (Level(1, Whole(), Upright(1, Whole(0), Level(1, Whole(), Whole(0)))), 3, 4)):
            self.check_form(tree, width, height, tree)

    def test_the_other_way_to_cut_three_in_a_row(self):
        for kind in (Upright, Level):
            size = (6, 1) if kind is Upright else (1, 6)
            due = kind(1, Whole(0), kind(2, Whole(1), Whole(2)))
            self.check_form(kind(3, kind(1, Whole(0), Whole(1)), Whole(2)), *size, due)

    def test_a_cross_is_cut_upright_first(self):
        tree = Level(1, Upright(2, Whole(0), Whole(1)), Upright(2, Whole(2), Whole(3)))
        self.check_form(tree, 3, 3, Upright(2, Level(1, Whole(0), Whole(2)), Level(1, Whole(1), Whole(3))))

    def test_upright_cuts_at_unlike_places_stay_below_the_level_one(self):
        tree = Level(1, Upright(2, Whole(0), Whole(1)), Upright(1, Whole(2), Whole(3)))
        self.check_form(tree, 3, 3, tree)

    def test_an_upright_line_that_goes_through_deep_within(self):
        lower = Upright(3, Upright(2, Whole(1), Whole(2)), Whole(3))
        tree = Level(1, Upright(2, Whole(0), Whole()), Level(1, lower, Upright(2, Whole(4), Whole(5))))
        first = Level(1, Whole(0), Level(1, Whole(1), Whole(4)))
        other = Level(1, Whole(), Level(1, Upright(1, Whole(2), Whole(3)), Whole(5)))
        self.check_form(tree, 4, 3, Upright(2, first, other))

    def test_marks_are_kept_with_their_pieces(self):
        marks = (None, 0, 5, 0, None, 999)
        top = Upright(1, Whole(marks[0]), Upright(1, Whole(marks[1]), Whole(marks[2])))
        low = Upright(2, Upright(1, Whole(marks[3]), Whole(marks[4])), Whole(marks[5]))
        told = form(Level(1, top, low), 3, 2)
        columns = [Level(1, Whole(marks[place]), Whole(marks[place + 3])) for place in range(3)]
        self.assertEqual(plain_of(told), plain_of(Upright(1, columns[0], Upright(1, columns[1], columns[2]))))

    def test_all_trees_of_small_sizes_come_to_as_many_forms_as_they_have_pieces(self):
        for width, height in ((1, 1), (4, 1), (1, 4), (2, 2), (3, 2), (2, 3), (4, 2), (2, 4), (3, 3)):
            forms = {}
            for plain in all_trees(width, height):
                tree = made(plain)
                some = sorted(plain_pieces(plain, 0, 0, height, width))
                told = form(tree, width, height)
                self.assertEqual(plain_of(told), form_due(some), plain)
                self.assertEqual(plain_of(tree), plain)
                self.assertEqual(forms.setdefault(tuple(some), plain_of(told)), plain_of(told))
            self.assertEqual(len(set(forms.values())), len(forms))

    def test_all_trees_with_marks(self):
        for width, height in ((2, 1), (1, 2), (3, 1), (2, 2)):
            forms = {}
            for plain in all_trees(width, height, (None, 0, 7)):
                some = sorted(plain_pieces(plain, 0, 0, height, width), key=lambda piece: piece[0])
                told = plain_of(form(made(plain), width, height))
                self.assertEqual(told, form_due(some), plain)
                self.assertEqual(forms.setdefault(tuple(some), told), told)
            self.assertEqual(len(set(forms.values())), len(forms))

    def test_some_greater_trees(self):
        chance = random.Random(5)
        for width, height in ((4, 4), (5, 3), (3, 6), (12, 2), (7, 7), (12, 12)):
            for count in range(30):
                plain = any_tree(chance, width, height)
                some = plain_pieces(plain, 0, 0, height, width)
                tree = made(plain)
                told = form(tree, width, height)
                self.assertEqual(plain_of(told), form_due(some))
                self.assertEqual(plain_of(form(told, width, height)), plain_of(told))
                self.assertEqual(pieces(told, width, height), pieces(tree, width, height))

    def test_it_is_the_tree_of_its_panel(self):
        for plain in all_trees(3, 3):
            tree = made(plain)
            self.assertEqual(plain_of(form(tree, 3, 3)), plain_of(tree_of(panel_of(tree, 3, 3))))

    def test_all_squares_of_a_sheet(self):
        due = strip(Upright, 12, strip(Level, 12))
        trees = squares_of_the_greatest_sheet(Upright, Level) + squares_of_the_greatest_sheet(Level, Upright)
        for tree in trees + [halved(12, 12), halved(12, 12).turned()]:
            self.assertEqual(tree.leaves(), 144)
            told = form(tree, 12, 12)
            self.assertIs(told.same(due), True)
            self.assertEqual(len({id(part) for part in parts(told)}), 287)
        for width, height in ((1, 12), (12, 1), (4, 4), (12, 4), (3, 11)):
            told = form(halved(width, height, 3), width, height)
            self.assertIs(told.same(strip(Upright, width, strip(Level, height, Whole(3)))), True)

    def test_more_than_fifty_two_leaves_are_not_refused(self):
        tree = strip(Level, 4, strip(Upright, 12))
        tree = Level(4, tree, strip(Upright, 5))
        self.assertEqual(tree.leaves(), 53)
        self.assertEqual(plain_of(form(tree, 12, 5)), form_due(pieces(tree, 12, 5)))

    def test_parts_that_are_one_object(self):
        part = Upright(2, Upright(1, Whole(4), Whole()), Whole(0))
        column = Level(2, Whole(4), Whole(4))
        self.check_form(Level(2, part, part), 3, 4, Upright(1, column, Upright(
            1, Level(2, Whole(), Whole()), Level(2, Whole(0), Whole(0)))))

    def test_what_is_told_is_new_in_all_its_parts(self):
        for tree, width, height in ((Whole(3), 1, 1), (Upright(1, Whole(), Level(1, Whole(), Whole())), 2, 2),
                                    (Level(1, *[Upright(1, Whole(), Whole())] * 2), 2, 2)):
            handed = plain_of(tree)
            told = parts(form(tree, width, height)) + parts(form(tree, width, height))
            own = {id(part) for part in told}
            self.assertEqual(len(own), len(told))
            self.assertFalse(own & {id(part) for part in parts(tree)})
            self.assertTrue(all(isinstance(part, Tree) for part in told))
            self.assertEqual(plain_of(tree), handed)

    def test_the_same_again_behind_a_change_of_what_was_told(self):
        tree = Level(1, *[Upright(1, Whole(), Whole())] * 2)
        told = form(tree, 2, 2)
        kept = plain_of(told)
        told.at, told.first = 9, Whole(9)
        self.assertEqual(plain_of(form(tree, 2, 2)), kept)


class TestFormRefused(FormCase):
    def test_no_side_of_anything(self):
        for thing in NO_SIDES:
            self.refused(NoSide, "side", thing, form, Whole(), thing, 1)
            self.refused(NoSide, "side", thing, form, Whole(), 1, thing)

    def test_no_side_the_width_ahead_of_the_height(self):
        for one, other in ((0, 13), (13, 0), (None, True), ("3", None)):
            self.refused(NoSide, "side", one, form, Whole(), one, other)

    def test_no_side_ahead_of_no_cut(self):
        bad = Upright(40, Whole(), Whole())
        self.refused(NoSide, "side", 13, form, bad, 13, 1)
        self.refused(NoSide, "side", 0, form, bad, 1, 0)

    def test_no_cut_the_first_one(self):
        one, two = Level(31, Whole(), Whole()), Level(32, Whole(), Whole())
        for at in (0, -1, 3, 4, 12, 10 ** 30):
            self.refused(NoCut, "at", at, form, Upright(at, Whole(), Whole()), 3, 12)
            self.refused(NoCut, "at", at, form, Level(at, Whole(), Whole()), 12, 3)
        self.refused(NoCut, "at", 30, form, Upright(30, one, two), 5, 5)
        self.refused(NoCut, "at", 31, form, Upright(1, one, two), 5, 5)
        self.refused(NoCut, "at", 32, form, Upright(1, two, one), 5, 5)
        self.refused(NoCut, "at", 32, form, Upright(1, Whole(), Level(1, Whole(), two)), 5, 5)
        self.refused(NoCut, "at", 31, form, Level(3, Upright(1, Whole(), one), two), 5, 5)

    def test_no_cut_of_a_tree_as_deep_as_it_has_cuts(self):
        for many in (52, 144):
            self.refused(NoCut, "at", 1, form, strip(Upright, many), 12, 12)
            self.refused(NoCut, "at", many - 1, form, strip_from_behind(Level, many), 12, 12)


class TestAlike(FormCase):
    def test_a_tree_and_itself(self):
        for tree in (Whole(), Whole(0), Upright(1, Whole(), Whole(5)), Level(1, Whole(), Whole())):
            self.assertIs(alike(tree, tree, 2, 2), True)

    def test_other_cuts_with_the_same_pieces(self):
        one = Level(1, Upright(1, Whole(0), Whole(1)), Upright(1, Whole(2), Whole()))
        two = Upright(1, Level(1, Whole(0), Whole(2)), Level(1, Whole(1), Whole()))
        self.assertIs(alike(tree=one, other=two, width=2, height=2), True)
        self.assertIs(alike(two, one, 2, 2), True)
        self.assertIs(alike(strip(Upright, 12), strip_from_behind(Upright, 12), 12, 3), True)

    def test_the_same_rectangles_with_other_marks(self):
        for mark, unlike in itertools.permutations((None, 0, 1, 999), 2):
            self.assertIs(alike(Whole(mark), Whole(unlike), 1, 1), False)
            tree = Upright(1, Whole(3), Whole(mark))
            self.assertIs(alike(tree, Upright(1, Whole(3), Whole(unlike)), 2, 1), False)
            self.assertIs(alike(Upright(1, Whole(mark), Whole(unlike)),
                                Upright(1, Whole(unlike), Whole(mark)), 2, 1), False)

    def test_other_rectangles(self):
        for one, two in ((Whole(), Upright(1, Whole(), Whole())),
                         (Upright(1, Whole(), Whole()), Upright(2, Whole(), Whole())),
                         (Upright(1, Whole(), Whole()), Level(1, Whole(), Whole()))):
            self.assertIs(alike(one, two, 3, 3), False)
            self.assertIs(alike(two, one, 3, 3), False)

    def test_all_pairs_of_small_trees(self):
        for width, height in ((3, 1), (2, 2), (2, 3)):
            trees = [(made(plain), sorted(plain_pieces(plain, 0, 0, height, width)))
                     for plain in all_trees(width, height)]
            for (one, some), (two, others) in itertools.product(trees, repeat=2):
                self.assertIs(alike(one, two, width, height), some == others)
                same_form = form(one, width, height).same(form(two, width, height))
                self.assertIs(same_form, some == others)

    def test_all_squares_of_the_greatest_sheet(self):
        trees = squares_of_the_greatest_sheet(Upright, Level) + squares_of_the_greatest_sheet(Level, Upright)
        for tree in trees + [halved(12, 12)]:
            self.assertIs(alike(tree, trees[0], 12, 12), True)
            self.assertIs(alike(tree, halved(12, 12, 0), 12, 12), False)

    def test_the_trees_handed_in_stay_as_they_were(self):
        one, two = Upright(1, Whole(), Whole(3)), Level(1, Whole(), Whole())
        alike(one, two, 2, 2)
        self.assertEqual(plain_of(one), ("upright", 1, ("whole", None), ("whole", 3)))
        self.assertEqual(plain_of(two), ("level", 1, ("whole", None), ("whole", None)))

    def test_no_side_of_anything_the_width_first(self):
        bad = Upright(40, Whole(), Whole())
        for thing in NO_SIDES:
            self.refused(NoSide, "side", thing, alike, Whole(), Whole(), thing, 1)
            self.refused(NoSide, "side", thing, alike, bad, Whole(), 1, thing)
            self.refused(NoSide, "side", thing, alike, Whole(), bad, thing, None)

    def test_no_cut_of_the_first_tree_ahead_of_the_other_one(self):
        good, one, two = Whole(), Upright(40, Whole(), Whole()), Level(1, Level(41, Whole(), Whole()), Whole())
        self.refused(NoCut, "at", 40, alike, one, two, 3, 3)
        self.refused(NoCut, "at", 41, alike, two, one, 3, 3)
        self.refused(NoCut, "at", 40, alike, one, good, 3, 3)
        self.refused(NoCut, "at", 40, alike, good, one, 3, 3)
        self.refused(NoCut, "at", 41, alike, good, two, 3, 3)


if __name__ == "__main__":
    unittest.main()
