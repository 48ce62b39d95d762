"""What sheets are worth, best trees, and the worth of a tree [2, 3, 18, 19, the interface]."""

import functools
import itertools
import random
import time
import unittest

from glazebench.cuts import Level, Tree, Upright, Whole, pieces
from glazebench.cuttexts import read_tree, written
from glazebench.errors import GlassError, NoCut, NoKind, NoSide, TooMany, Unfit
from glazebench.worths import best, worth_of, worths


class Touchy:
    """A thing that fails wherever it is compared, counted or written out."""

    def fail(self, *things):
        raise RuntimeError("touched")

    __eq__ = __lt__ = __le__ = __gt__ = __ge__ = fail
    __len__ = __iter__ = __getitem__ = __int__ = __index__ = __bool__ = __repr__ = fail
    __hash__ = None


NO_WHOLES = [None, True, False, 0.5, 3.0, float("nan"), 2j, "", "3", b"3", [], [3], (), (3,), {}, {1: 2}, set(),
             range(4), object(), int, len, Whole(), Touchy()]
NO_SIDES = NO_WHOLES + [0, -1, 13, 10 ** 5000, -10 ** 5000]
NO_TRUTHS = [None, 0, 1, 2, -1, 0.0, 1.0, "", "True", b"", [], [True], (), (True,), {}, set(), object(), bool, Whole(),
             Touchy()]

GOOD = (2, 3, 5, True)
NO_KINDS = (
    [None, True, 3, 0.5, "", "2 3 5 True", b"2351", {}, {0: 1}, set(), frozenset(GOOD), range(4), object(), tuple,
     Whole(), Touchy(), [], list(GOOD), [2, 3, 5, True], (), (2,), (2, 3), (2, 3, 5), (2, 3, 5, True, True), (GOOD,),
     (2, 3, True, 5), (True, 3, 5, True), (2, False, 5, True), ("2", 3, 5, True), (2, 3, "5", True)]
    + [(thing, 3, 5, True) for thing in NO_SIDES] + [(2, thing, 5, False) for thing in NO_SIDES]
    + [(2, 3, thing, True) for thing in NO_WHOLES + [-1, 10 ** 9 + 1, 10 ** 5000, -10 ** 5000]]
    + [(2, 3, 5, thing) for thing in NO_TRUTHS])

# Kinds that turn and such that don't, of worth 0, several of one size, none at all, more than the sheet holds.
SOME_KINDS = (
    [], [(1, 1, 1, False)], [(1, 1, 0, True)], [(2, 1, 3, False)], [(2, 1, 3, True)], [(1, 2, 3, False)],
    [(1, 1, 1, True), (2, 2, 5, True)], [(2, 2, 3, False), (1, 1, 1, False)], [(3, 2, 7, False), (1, 2, 2, False)],
    [(3, 2, 7, True), (1, 2, 2, True)], [(2, 1, 4, False), (2, 1, 3, True)], [(2, 1, 3, True), (2, 1, 4, False)],
    [(2, 1, 3, False), (2, 1, 4, True), (2, 1, 4, False)], [(1, 3, 4, False), (3, 1, 5, False), (2, 2, 6, True)],
    [(12, 12, 10 ** 9, True), (3, 3, 1, False)], [(2, 2, 10 ** 9, False), (1, 1, 10 ** 9 // 4 + 1, False)],
    [(1, 1, 0, False), (2, 1, 0, True), (2, 3, 1, False)], [(4, 1, 9, True), (3, 3, 19, False), (1, 2, 3, True)],
    [(1, 1, 1, True), (2, 1, 2, False), (3, 1, 4, True), (2, 2, 5, False), (1, 3, 3, False), (3, 2, 8, False),
     (3, 3, 12, True), (2, 3, 9, False)])

EIGHT_KINDS = [(3, 2, 7, True), (5, 4, 25, False), (1, 1, 1, True), (7, 2, 19, True), (2, 2, 5, True),
               (3, 3, 12, False), (4, 1, 5, True), (11, 2, 40, True)]


def stands(kind, width, height):
    return kind[:2] == (width, height) or kind[3] and kind[:2] == (height, width)


def all_trees(width, height, kinds):
    """All trees laid for a sheet, as tuples (worth, words), told one by one."""
    yield 0, "."
    for mark, kind in enumerate(kinds):
        if stands(kind, width, height):
            yield kind[2], f"#{mark}"
    for at in range(1, width):
        for first, other in itertools.product(all_trees(at, height, kinds), all_trees(width - at, height, kinds)):
            yield first[0] + other[0], f"|{at} {first[1]} {other[1]}"
    for at in range(1, height):
        for first, other in itertools.product(all_trees(width, at, kinds), all_trees(width, height - at, kinds)):
            yield first[0] + other[0], f"-{at} {first[1]} {other[1]}"


@functools.lru_cache(None)
def cut_sizes(width, height):
    """The sizes of the pieces of all trees that fit, each tree's own list sorted, each list once."""
    found = {((width, height),)}
    for at in range(1, width):
        for first, other in itertools.product(cut_sizes(at, height), cut_sizes(width - at, height)):
            found.add(tuple(sorted(first + other)))
    for at in range(1, height):
        for first, other in itertools.product(cut_sizes(width, at), cut_sizes(width, height - at)):
            found.add(tuple(sorted(first + other)))
    return found


def greatest_by_sizes(width, height, kinds):
    """The greatest worth over all lists of pieces: each piece by itself has the best kind that stands there."""
    alone = {size: max([0] + [kind[2] for kind in kinds if stands(kind, *size)])
             for size in itertools.product(range(1, width + 1), range(1, height + 1))}
    return max(sum(alone[size] for size in sizes) for sizes in cut_sizes(width, height))


def worths_due(width, height, kinds):
    """Point 19 told once more for great sheets: from the whole sheet down."""
    @functools.lru_cache(None)
    def greatest(wide, high):
        found = [0] + [kind[2] for kind in kinds if stands(kind, wide, high)]
        found += [greatest(at, high) + greatest(wide - at, high) for at in range(1, wide // 2 + 1)]
        found += [greatest(wide, at) + greatest(wide, high - at) for at in range(1, high // 2 + 1)]
        return max(found)
    return {(wide, high): greatest(wide, high) for wide in range(1, width + 1) for high in range(1, height + 1)}


def any_kinds(chance, many, longest, greatest):
    return [(chance.randint(1, longest), chance.randint(1, longest), chance.randint(0, greatest),
             chance.random() < 0.5) for place in range(many)]


def any_tree(chance, width, height, marks):
    cuts = [(Upright, at) for at in range(1, width)] + [(Level, at) for at in range(1, height)]
    if not cuts or chance.random() < 0.2:
        return Whole(chance.choice(marks))
    kind, at = chance.choice(cuts)
    if kind is Upright:
        return Upright(at, any_tree(chance, at, height, marks), any_tree(chance, width - at, height, marks))
    return Level(at, any_tree(chance, width, at, marks), any_tree(chance, width, height - at, marks))


def strip(kind, many, part):
    tree = part
    for count in range(many - 1):
        tree = kind(1, part, tree)
    return tree


def all_sizes(width, height):
    return list(itertools.product(range(1, width + 1), range(1, height + 1)))


class WorthsCase(unittest.TestCase):
    def refused(self, kind, name, value, asked, *things):
        with self.assertRaises(GlassError) as caught:
            asked(*things)
        self.assertIs(type(caught.exception), kind)
        self.assertEqual(getattr(caught.exception, name), value)

    def side_refused(self, side, asked, *things):
        with self.assertRaises(GlassError) as caught:
            asked(*things)
        self.assertIs(type(caught.exception), NoSide)
        self.assertIs(caught.exception.side, side)

    def check_best(self, width, height, kinds, due):
        tree = best(width, height, kinds)
        self.assertIsInstance(tree, Tree)
        self.assertTrue(tree.fits(width, height))
        # Told once more, and not by worth_of alone: each marked piece is of its kind.
        total = 0
        for (top, left, bottom, right), mark in pieces(tree, width, height):
            if mark is not None:
                self.assertTrue(0 <= mark < len(kinds))
                self.assertTrue(stands(kinds[mark], right - left, bottom - top))
                total += kinds[mark][2]
        self.assertEqual(total, due)
        self.assertEqual(worth_of(tree, width, height, kinds), due)


class TestWorths(WorthsCase):
    def test_a_plain_one(self):
        kinds = [(2, 1, 3, False), (1, 1, 1, False)]
        self.assertEqual(worths(2, 2, kinds), {(1, 1): 1, (1, 2): 2, (2, 1): 3, (2, 2): 6})
        self.assertEqual(worths(3, 1, kinds), {(1, 1): 1, (2, 1): 3, (3, 1): 4})

    def test_a_kind_that_turns_and_one_that_does_not(self):
        self.assertEqual(worths(1, 3, [(3, 1, 7, False)]), {(1, 1): 0, (1, 2): 0, (1, 3): 0})
        self.assertEqual(worths(1, 3, [(3, 1, 7, True)]), {(1, 1): 0, (1, 2): 0, (1, 3): 7})
        self.assertEqual(worths(1, 3, [(1, 3, 7, False)]), {(1, 1): 0, (1, 2): 0, (1, 3): 7})
        self.assertEqual(worths(3, 1, [(1, 3, 7, True)]), {(1, 1): 0, (2, 1): 0, (3, 1): 7})
        self.assertEqual(worths(3, 3, [(3, 2, 7, False), (3, 1, 3, False)])[(3, 3)], 10)
        self.assertEqual(worths(3, 3, [(2, 3, 7, False), (3, 1, 2, False)])[(3, 3)], 7)
        self.assertEqual(worths(3, 3, [(2, 3, 7, False), (3, 1, 2, True)])[(3, 3)], 9)

    def test_kinds_of_one_size(self):
        self.assertEqual(worths(2, 2, [(2, 1, 3, False), (2, 1, 5, False), (2, 1, 4, True)])[(2, 2)], 10)
        self.assertEqual(worths(1, 2, [(2, 1, 3, False), (2, 1, 5, False), (2, 1, 4, True)])[(1, 2)], 4)

    def test_no_kinds_and_kinds_of_worth_nothing(self):
        for kinds in ([], [(1, 1, 0, True)], [(1, 1, 0, False), (3, 2, 0, True)], [(5, 5, 9, True)]):
            self.assertEqual(worths(4, 3, kinds), {size: 0 for size in all_sizes(4, 3)})
            self.check_best(4, 3, kinds, 0)

    def test_the_keys_are_just_the_sizes(self):
        for width, height in ((1, 1), (12, 1), (1, 12), (3, 5), (12, 12)):
            for kinds in ([], [(1, 1, 1, False)], [(3, 2, 5, True)]):
                told = worths(width, height, kinds)
                self.assertIs(type(told), dict)
                self.assertEqual(sorted(told), all_sizes(width, height))
                self.assertTrue(all(type(key) is tuple for key in told))
                self.assertTrue(all(type(worth) is int for worth in told.values()))

    def test_a_wheel_of_kinds_can_not_be_cut(self):
        # Four of these lie about a square in five by five, worth 29 or 28, but no cut leads to that.
        self.assertEqual(worths(5, 5, [(3, 2, 7, True), (1, 1, 1, False)])[(5, 5)], 28)
        self.assertEqual(worths(5, 5, [(3, 2, 7, True)])[(5, 5)], 21)

    def test_all_trees_told_one_by_one(self):
        for kinds in SOME_KINDS:
            for width, height in ((1, 1), (2, 1), (1, 3), (2, 2), (3, 1), (1, 4)):
                told = worths(width, height, kinds)
                for size in all_sizes(width, height):
                    due = max(worth for worth, words in all_trees(*size, kinds))
                    self.assertEqual(told[size], due, (size, kinds))

    def test_all_trees_told_one_by_one_with_few_kinds(self):
        for kinds in SOME_KINDS:
            if len(kinds) <= 2:
                for width, height in ((3, 2), (2, 3)):
                    due = max(worth for worth, words in all_trees(width, height, kinds))
                    self.assertEqual(worths(width, height, kinds)[(width, height)], due, kinds)
                    self.check_best(width, height, kinds, due)

    def test_all_trees_of_nine_squares_told_one_by_one(self):
        for kinds in ([(2, 1, 3, True)], [(2, 2, 7, False), (3, 1, 5, False)], [(2, 3, 4, True), (1, 2, 1, False)]):
            due = max(worth for worth, words in all_trees(3, 3, kinds))
            self.assertEqual(worths(3, 3, kinds)[(3, 3)], due, kinds)
            self.check_best(3, 3, kinds, due)

    def test_all_pieces_of_all_trees(self):
        chance = random.Random(18)
        for kinds in list(SOME_KINDS) + [any_kinds(chance, 6, 4, 20) for trial in range(15)]:
            told = worths(4, 4, kinds)
            for size in all_sizes(4, 4):
                self.assertEqual(told[size], greatest_by_sizes(*size, kinds), (size, kinds))

    def test_greater_sheets(self):
        chance = random.Random(19)
        for trial in range(25):
            width, height = chance.randint(1, 12), chance.randint(1, 12)
            kinds = any_kinds(chance, chance.randint(1, 8), chance.randint(2, 12), chance.choice((3, 100, 10 ** 9)))
            due = worths_due(width, height, kinds)
            self.assertEqual(worths(width, height, kinds), due)
            self.check_best(width, height, kinds, due[(width, height)])

    def test_no_drawn_tree_is_worth_more(self):
        chance = random.Random(20)
        for trial in range(300):
            kinds = any_kinds(chance, 8, 4, 9)
            tree = any_tree(chance, 6, 5, [None])
            laid = 0
            for (top, left, bottom, right), mark in pieces(tree, 6, 5):
                laid += max([0] + [kind[2] for kind in kinds if stands(kind, right - left, bottom - top)])
            self.assertLessEqual(laid, worths(6, 5, kinds)[(6, 5)])

    def test_the_greatest_sheet_with_eight_kinds_in_good_time(self):
        begin = time.process_time()
        told = worths(12, 12, EIGHT_KINDS)
        self.check_best(12, 12, EIGHT_KINDS, told[(12, 12)])
        self.assertLess(time.process_time() - begin, 5)
        self.assertEqual(told, worths_due(12, 12, EIGHT_KINDS))

    def test_the_greatest_sum(self):
        kinds = [(1, 1, 10 ** 9, False)]
        self.assertEqual(worths(12, 12, kinds)[(12, 12)], 144 * 10 ** 9)
        self.assertEqual(best(12, 12, kinds).leaves(), 144)
        self.check_best(12, 12, kinds, 144 * 10 ** 9)
        self.assertEqual(worths(12, 12, [(12, 12, 10 ** 9, False)])[(12, 12)], 10 ** 9)

    def test_turned_kinds_on_a_turned_sheet(self):
        chance = random.Random(21)
        for trial in range(20):
            kinds = any_kinds(chance, 5, 5, 30)
            turned = [(height, width, worth, turns) for width, height, worth, turns in kinds]
            told = worths(7, 5, kinds)
            self.assertEqual(worths(5, 7, turned), {(high, wide): worth for (wide, high), worth in told.items()})


class TestBest(WorthsCase):
    def test_one_that_is_the_only_best(self):
        self.assertEqual(written(best(3, 2, [(3, 2, 7, False), (1, 1, 1, False)])), "#0")
        self.assertEqual(written(best(2, 3, [(3, 2, 7, True)])), "#0")
        self.assertEqual(written(best(2, 1, [(3, 2, 7, True), (1, 1, 1, False)])), "|1 #1 #1")
        self.assertEqual(written(best(1, 2, [(1, 1, 0, False), (1, 1, 4, True)])), "-1 #1 #1")

    def test_each_of_some_kinds_on_small_sheets(self):
        for kinds in SOME_KINDS:
            told = worths(5, 4, kinds)
            for size in all_sizes(5, 4):
                self.check_best(*size, kinds, told[size])

    def test_the_same_again(self):
        chance = random.Random(22)
        for trial in range(20):
            kinds = any_kinds(chance, 8, 5, 6)
            tree, again = best(9, 8, kinds), best(9, 8, list(kinds))
            self.assertTrue(tree.same(again))
            self.assertIsNot(tree, again)

    def test_arguments_by_name(self):
        kinds = [(2, 1, 3, False)]
        self.assertEqual(worths(width=2, height=1, kinds=kinds), {(1, 1): 0, (2, 1): 3})
        self.assertEqual(written(best(width=2, height=1, kinds=kinds)), "#0")
        self.assertEqual(worth_of(tree=Whole(0), width=2, height=1, kinds=kinds), 3)


class TestWorthOf(WorthsCase):
    KINDS = [(2, 1, 3, False), (1, 3, 10, True), (1, 1, 0, False)]

    def test_trees_with_marks_and_without(self):
        for words, width, height, due in (
                (".", 1, 1, 0), (".", 12, 12, 0), ("|1 . .", 2, 1, 0), ("#0", 2, 1, 3), ("#1", 1, 3, 10),
                ("#1", 3, 1, 10), ("#2", 1, 1, 0), ("-1 #0 #0", 2, 2, 6), ("-1 #0 .", 2, 2, 3),
                ("-1 #0 |1 #2 #2", 2, 2, 3), ("|2 -1 #0 -1 #0 #0 #1", 3, 3, 19), ("-1 #1 |2 -1 #0 . .", 3, 3, 13)):
            told = worth_of(read_tree(words), width, height, self.KINDS)
            self.assertIs(type(told), int)
            self.assertEqual(told, due, words)

    def test_all_laid_trees_of_small_sheets(self):
        for kinds in SOME_KINDS:
            for width, height in ((1, 1), (2, 2), (3, 1), (1, 3)):
                for due, words in all_trees(width, height, kinds):
                    self.assertEqual(worth_of(read_tree(words), width, height, kinds), due)

    def test_no_kinds(self):
        self.assertEqual(worth_of(read_tree("|1 . -1 . ."), 2, 2, []), 0)
        self.refused(Unfit, "piece", ((0, 0, 2, 2), 0), worth_of, Whole(0), 2, 2, [])

    def test_as_many_leaves_as_there_may_be(self):
        tree = strip(Upright, 12, strip(Level, 12, Whole(2)))
        self.assertEqual(worth_of(tree, 12, 12, self.KINDS), 0)
        self.assertEqual(worth_of(tree, 12, 12, [GOOD, GOOD, (1, 1, 10 ** 9, True)]), 144 * 10 ** 9)

    def test_a_kind_may_stand_as_often_as_one_likes(self):
        self.assertEqual(worth_of(strip(Level, 12, Whole(0)), 2, 12, self.KINDS), 36)

    def test_unfit_where_a_kind_does_not_turn(self):
        self.refused(Unfit, "piece", ((0, 0, 2, 1), 0), worth_of, Whole(0), 1, 2, self.KINDS)
        self.assertEqual(worth_of(Whole(0), 1, 2, [(2, 1, 3, True)]), 3)

    def test_unfit_where_the_size_is_another_one(self):
        for width, height in ((1, 1), (2, 2), (3, 1), (1, 2), (4, 2), (12, 12)):
            self.refused(Unfit, "piece", ((0, 0, height, width), 0), worth_of, Whole(0), width, height, self.KINDS)
        for width, height in ((1, 1), (1, 2), (2, 3), (3, 2), (3, 3), (1, 4)):
            self.refused(Unfit, "piece", ((0, 0, height, width), 1), worth_of, Whole(1), width, height, self.KINDS)

    def test_unfit_where_the_mark_is_no_number_of_a_kind(self):
        # A number below 0 counts no kinds from the end of the list: the last kind would fit here.
        kinds = self.KINDS + [(2, 1, 4, False)]
        for mark in (4, 5, 8, 999, 1000, -1, -2, -4):
            self.refused(Unfit, "piece", ((0, 0, 1, 2), mark), worth_of, Whole(mark), 2, 1, kinds)
        self.assertEqual(worth_of(Whole(3), 2, 1, kinds), 4)
        eight = [(2, 1, 3, False)] * 8
        self.assertEqual(worth_of(Whole(7), 2, 1, eight), 3)
        self.refused(Unfit, "piece", ((0, 0, 1, 2), 8), worth_of, Whole(8), 2, 1, eight)

    def test_unfit_with_the_first_piece(self):
        # The pieces as pieces tells them, not as the tree has them.
        kinds = [(1, 1, 1, False)]
        for words, due in (("|1 -1 #0 #9 #1", ((0, 1, 2, 2), 1)), ("|1 -1 . #9 #0", ((0, 1, 2, 2), 0)),
                           ("-1 |1 #0 #0 |1 #7 #8", ((1, 0, 2, 1), 7)), ("|1 -1 #5 #0 -1 #6 #0", ((0, 0, 1, 1), 5)),
                           ("|1 -1 #0 #5 -1 #6 #0", ((0, 1, 1, 2), 6)), ("-1 . #0", ((1, 0, 2, 2), 0))):
            self.refused(Unfit, "piece", due, worth_of, read_tree(words), 2, 2, kinds)

    def test_drawn_trees(self):
        chance = random.Random(23)
        unfit = 0
        for trial in range(400):
            kinds = any_kinds(chance, 6, 3, 9)
            tree = any_tree(chance, 4, 4, [None, None, None, None, 0, 1, 2, 3, 4, 5, 6])
            marked = [piece for piece in pieces(tree, 4, 4) if piece[1] is not None]
            wrong = [((top, left, bottom, right), mark) for (top, left, bottom, right), mark in marked
                     if mark >= 6 or not stands(kinds[mark], right - left, bottom - top)]
            if wrong:
                unfit += 1
                self.refused(Unfit, "piece", wrong[0], worth_of, tree, 4, 4, kinds)
            else:
                self.assertEqual(worth_of(tree, 4, 4, kinds), sum(kinds[mark][2] for piece, mark in marked))
        self.assertTrue(50 < unfit < 390)


def ask_worth_of(width, height, kinds):
    return worth_of(Whole(), width, height, kinds)


class TestRefused(WorthsCase):
    ASKED = (worths, best, ask_worth_of)

    def test_no_side_of_anything(self):
        for asked in self.ASKED:
            for thing in NO_SIDES:
                self.side_refused(thing, asked, thing, 3, [])
                self.side_refused(thing, asked, 3, thing, [])
                self.side_refused(thing, asked, thing, 13, [])
                self.side_refused(13, asked, 13, thing, [])

    def test_no_side_ahead_of_the_kinds(self):
        for asked in self.ASKED:
            for kinds in ([GOOD] * 9, [None], [None] * 9):
                self.side_refused(0, asked, 0, 3, kinds)
                self.side_refused(True, asked, 3, True, kinds)

    def test_too_many_kinds(self):
        for asked in self.ASKED:
            for many in (9, 10, 60):
                self.refused(TooMany, "many", many, asked, 3, 3, [GOOD] * many)
                self.refused(TooMany, "many", many, asked, 3, 3, [Touchy()] * many)
                self.refused(TooMany, "many", many, asked, 3, 3, [None] + [GOOD] * (many - 1))
            asked(3, 3, [GOOD] * 8)

    def test_no_kind_of_anything(self):
        for asked in self.ASKED:
            for thing in NO_KINDS:
                self.refused(NoKind, "place", 0, asked, 3, 3, [thing])
                self.refused(NoKind, "place", 2, asked, 3, 3, [GOOD, GOOD, thing, GOOD])
                self.refused(NoKind, "place", 7, asked, 3, 3, [GOOD] * 7 + [thing])

    def test_the_first_that_is_no_kind(self):
        for asked in self.ASKED:
            self.refused(NoKind, "place", 1, asked, 3, 3, [GOOD, None, GOOD, Touchy()])
            self.refused(NoKind, "place", 0, asked, 3, 3, [(1, 1, -1, True), (0, 1, 1, True)])

    def test_kinds_at_the_edges(self):
        for kind in ((1, 1, 0, True), (12, 12, 10 ** 9, False), (1, 12, 10 ** 9, True), (12, 1, 0, False)):
            for asked in self.ASKED:
                asked(12, 12, [kind])
            self.assertEqual(worths(12, 12, [kind])[kind[:2]], kind[2])

    def test_no_cut_behind_the_kinds(self):
        tree = Upright(3, Whole(), Whole())
        self.refused(TooMany, "many", 9, worth_of, tree, 3, 3, [GOOD] * 9)
        self.refused(NoKind, "place", 0, worth_of, tree, 3, 3, [None])
        self.refused(NoCut, "at", 3, worth_of, tree, 3, 3, [GOOD])

    def test_no_side_ahead_of_no_cut(self):
        self.side_refused(0, worth_of, Upright(3, Whole(), Whole()), 0, 3, [GOOD])

    def test_no_cut_ahead_of_unfit(self):
        for words, at in (("|1 #9 -3 . .", 3), ("|2 -3 #9 . |1 . .", 3), ("|2 |2 . . #9", 2), ("|3 |9 . . #9", 3)):
            self.refused(NoCut, "at", at, worth_of, read_tree(words), 3, 3, [GOOD])
        for at in (0, -1, 3, 100):
            self.refused(NoCut, "at", at, worth_of, Level(at, Whole(9), Whole()), 3, 3, [GOOD])


class TestOnesOwn(WorthsCase):
    def test_nothing_that_is_handed_in_is_changed(self):
        kinds = list(EIGHT_KINDS)
        tree = best(6, 5, kinds)
        words = written(tree)
        worths(6, 5, kinds)
        worth_of(tree, 6, 5, kinds)
        self.assertEqual(kinds, EIGHT_KINDS)
        self.assertEqual(written(tree), words)

    def test_the_dict_is_the_askers_own(self):
        due = worths(3, 3, EIGHT_KINDS)
        told = worths(3, 3, EIGHT_KINDS)
        self.assertIsNot(told, due)
        told.clear()
        self.assertEqual(worths(3, 3, EIGHT_KINDS), due)
        kinds = [(1, 1, 1, False)]
        told = worths(2, 2, kinds)
        kinds.append((2, 2, 50, False))
        self.assertEqual(told, {(1, 1): 1, (1, 2): 2, (2, 1): 2, (2, 2): 4})
        self.assertEqual(worths(2, 2, kinds)[(2, 2)], 50)

    def test_trees_are_of_no_parts_in_common(self):
        tree, again = best(4, 4, [(1, 1, 1, False)]), best(4, 4, [(1, 1, 1, False)])

        def parts(some):
            return [some] if isinstance(some, Whole) else [some] + parts(some.first) + parts(some.other)

        self.assertFalse({id(part) for part in parts(tree)} & {id(part) for part in parts(again)})

    def test_the_piece_of_a_refusal(self):
        with self.assertRaises(Unfit) as caught:
            worth_of(Whole(3), 2, 1, [])
        self.assertEqual(caught.exception.piece, ((0, 0, 1, 2), 3))
        self.assertIs(type(caught.exception.piece), tuple)


if __name__ == "__main__":
    unittest.main()
