"""Wants, sets of them, their least sizes and the trees for these [2, 3, 21, 22, the interface]."""

import itertools
import random
import time
import unittest

from glazebench.cuts import Tree, Whole, pieces
from glazebench.cuttexts import written
from glazebench.errors import GlassError, NoNumber, NoSide, NoSize, NoWant, TooMany
from glazebench.stairs import stair_tree, stairs


class Touchy:
    """A thing that fails wherever it is compared, counted or written out."""

    def fail(self, *things):
        raise RuntimeError("touched")

    __eq__ = __lt__ = __le__ = __gt__ = __ge__ = fail
    __len__ = __iter__ = __getitem__ = __int__ = __index__ = __bool__ = __repr__ = fail
    __hash__ = None


NO_WHOLES = [None, True, False, 0.5, 1.0, 3.0, float("nan"), 2j, "", "1", b"1", [], [1], (), (1,), {}, {1: 2}, set(),
             range(4), object(), int, len, Whole(), Touchy()]
NO_SIDES = NO_WHOLES + [0, -1, 13, 10 ** 5000, -10 ** 5000]
NO_TRUTHS = [None, 0, 1, 2, -1, 0.0, 1.0, "", "True", b"", [], [True], (), (True,), {}, set(), object(), bool, Whole(),
             Touchy()]

GOOD = (2, 3, True)
NO_WANTS = (
    [None, True, 3, 0.5, "", "23T", "2 3", b"231", {}, {0: 1}, set(), frozenset(GOOD), range(3), object(), tuple,
     Whole(), Touchy(), [], list(GOOD), (), (2,), (2, 3), (2, 3, True, True), (2, 3, 5, True), (GOOD,), (True, 2, 3),
     (2, True, 3), (True, True, True)]
    + [(thing, 3, True) for thing in NO_SIDES] + [(2, thing, False) for thing in NO_SIDES]
    + [(2, 3, thing) for thing in NO_TRUTHS])

# Wants that turn and such that don't, some alike, and squares.
SMALL_WANTS = (
    [(1, 1, False)], [(2, 1, False)], [(2, 1, True)], [(1, 2, False)], [(2, 2, True)], [(3, 2, True)], [(1, 3, False)],
    [(1, 1, False), (1, 1, False)], [(2, 1, False), (2, 1, False)], [(2, 1, True), (2, 1, True)],
    [(2, 1, False), (2, 1, True)], [(2, 1, False), (1, 2, False)], [(2, 2, False), (1, 1, True)],
    [(3, 1, True), (2, 2, False)], [(1, 1, True), (1, 1, True), (1, 1, True)],
    [(2, 1, True), (1, 1, False), (1, 2, False)],
    [(2, 1, True), (2, 1, True), (2, 1, True)], [(3, 1, False), (1, 2, True), (2, 2, False)])

SIX_WANTS = [(3, 2, True), (4, 5, False), (2, 2, False), (1, 7, True), (6, 3, True), (3, 3, False)]


def all_cuts(width, height):
    """The sizes of the pieces of all trees that fit, tree by tree."""
    yield [(width, height)]
    for at in range(1, width):
        for first, other in itertools.product(all_cuts(at, height), list(all_cuts(width - at, height))):
            yield first + other
    for at in range(1, height):
        for first, other in itertools.product(all_cuts(width, at), list(all_cuts(width, height - at))):
            yield first + other


def ways(want):
    return {want[:2], want[1::-1]} if want[2] else {want[:2]}


def can_mark(wants, numbers, sizes):
    """Whether pieces of these sizes can be marked with just these numbers, each once."""
    if not numbers:
        return True
    return any(can_mark(wants, numbers[1:], sizes[:place] + sizes[place + 1:])
               for place, size in enumerate(sizes) if size in ways(wants[numbers[0]]))


def numbers_of(bits):
    return [number for number in range(6) if bits & 2 ** number]


def served_by_size(wants, longest):
    """Point 21 told once more: for each size the sets, by bits, that some tree serves on it."""
    served = {}
    for width, height in itertools.product(range(1, longest + 1), repeat=2):
        found = {0} | {2 ** number for number, want in enumerate(wants) if (width, height) in ways(want)}
        # A cut beyond the middle leaves the same two sizes as one ahead of it.
        pairs = [((at, height), (width - at, height)) for at in range(1, width // 2 + 1)]
        pairs += [((width, at), (width, height - at)) for at in range(1, height // 2 + 1)]
        for first, other in pairs:
            found |= {one | two for one in served[first] for two in served[other] if not one & two}
        served[(width, height)] = found
    return served


def stairs_due(wants):
    """Point 22 told once more: the sizes that serve, and no other one within them does."""
    served = served_by_size(wants, 12)
    due = {}
    for bits in range(1, 2 ** len(wants)):
        good = [size for size in sorted(served) if bits in served[size]]
        due[bits] = [size for size in good if not any(
            other != size and other[0] <= size[0] and other[1] <= size[1] for other in good)]
    return due


def within(size, width, height):
    return size[0] <= width and size[1] <= height


def any_wants(chance, many, longest):
    return [(chance.randint(1, longest), chance.randint(1, longest), chance.random() < 0.5) for place in range(many)]


class StairsCase(unittest.TestCase):
    def refused(self, kind, name, value, asked, *things):
        with self.assertRaises(GlassError) as caught:
            asked(*things)
        self.assertIs(type(caught.exception), kind)
        self.assertEqual(getattr(caught.exception, name), value)

    def refused_itself(self, kind, name, value, asked, *things):
        with self.assertRaises(GlassError) as caught:
            asked(*things)
        self.assertIs(type(caught.exception), kind)
        self.assertIs(getattr(caught.exception, name), value)

    def check_serves(self, wants, bits, width, height):
        tree = stair_tree(wants, bits, width, height)
        self.assertIsInstance(tree, Tree)
        self.assertTrue(tree.fits(width, height))
        marks = []
        for (top, left, bottom, right), mark in pieces(tree, width, height):
            if mark is not None:
                marks.append(mark)
                self.assertIn((right - left, bottom - top), ways(wants[mark]))
        self.assertEqual(sorted(marks), numbers_of(bits))
        self.assertLessEqual(tree.leaves(), 52)

    def check_trees(self, wants, sizes):
        """On each of these sizes a tree where a least size lies within it, else none."""
        for bits, least in stairs(wants).items():
            for width, height in sizes:
                if any(within(size, width, height) for size in least):
                    self.check_serves(wants, bits, width, height)
                else:
                    self.refused(NoSize, "size", (width, height), stair_tree, wants, bits, width, height)


class TestStairs(StairsCase):
    def test_one_want(self):
        self.assertEqual(stairs([(3, 2, False)]), {1: [(3, 2)]})
        self.assertEqual(stairs([(3, 2, True)]), {1: [(2, 3), (3, 2)]})
        self.assertEqual(stairs([(2, 3, True)]), {1: [(2, 3), (3, 2)]})
        self.assertEqual(stairs([(3, 3, True)]), {1: [(3, 3)]})
        self.assertEqual(stairs([(1, 1, False)]), {1: [(1, 1)]})
        self.assertEqual(stairs([(12, 12, True)]), {1: [(12, 12)]})
        self.assertEqual(stairs([(12, 1, True)]), {1: [(1, 12), (12, 1)]})

    def test_no_wants(self):
        self.assertEqual(stairs([]), {})

    def test_two_wants(self):
        self.assertEqual(stairs([(2, 1, False), (1, 2, False)]),
                         {1: [(2, 1)], 2: [(1, 2)], 3: [(2, 3), (3, 2)]})
        self.assertEqual(stairs([(5, 4, False), (3, 2, True)])[3], [(5, 6), (7, 4)])

    def test_wants_that_are_alike(self):
        self.assertEqual(stairs([(2, 3, False)] * 3), {
            1: [(2, 3)], 2: [(2, 3)], 3: [(2, 6), (4, 3)], 4: [(2, 3)], 5: [(2, 6), (4, 3)], 6: [(2, 6), (4, 3)],
            7: [(2, 9), (4, 6), (6, 3)]})
        self.assertEqual(stairs([(1, 1, True)] * 6)[63], [(1, 6), (2, 3), (3, 2), (6, 1)])

    def test_sets_that_no_size_will_do_for(self):
        self.assertEqual(stairs([(12, 12, False), (1, 1, False)]), {1: [(12, 12)], 2: [(1, 1)], 3: []})
        self.assertEqual(stairs([(7, 7, True)] * 2), {1: [(7, 7)], 2: [(7, 7)], 3: []})
        self.assertEqual(stairs([(6, 7, True)] * 3)[7], [])
        self.assertEqual(stairs([(12, 7, False), (12, 6, False)])[3], [])
        self.assertEqual(stairs([(12, 6, False), (12, 6, False), (1, 1, True)]),
                         {1: [(12, 6)], 2: [(12, 6)], 3: [(12, 12)], 4: [(1, 1)], 5: [(12, 7)], 6: [(12, 7)], 7: []})

    def test_the_longest_side_may_be_filled(self):
        self.assertEqual(stairs([(12, 5, False), (12, 7, False)])[3], [(12, 12)])
        self.assertEqual(stairs([(1, 12, True)] * 2)[3], [(2, 12), (12, 2)])
        self.assertEqual(stairs([(6, 12, False), (6, 12, False)])[3], [(12, 12)])

    def test_a_wheel_of_wants_can_not_be_cut(self):
        # Four of these lie about a square in five by five, but no cut leads to that.
        told = stairs([(3, 2, True)] * 4)[15]
        self.assertFalse(any(within(size, 5, 5) for size in told))
        self.assertEqual(told, [(2, 12), (3, 8), (4, 6), (6, 4), (8, 3), (12, 2)])

    def test_the_keys_and_the_order(self):
        for wants in list(SMALL_WANTS) + [SIX_WANTS]:
            told = stairs(wants)
            self.assertIs(type(told), dict)
            self.assertEqual(sorted(told), list(range(1, 2 ** len(wants))))
            for least in told.values():
                self.assertIs(type(least), list)
                self.assertTrue(all(type(size) is tuple for size in least))
                for one, other in zip(least, least[1:]):
                    self.assertTrue(one[0] < other[0] and one[1] > other[1])

    def test_all_trees_told_one_by_one(self):
        small = {(width, height): list(all_cuts(width, height))
                 for width, height in itertools.product(range(1, 4), repeat=2)}
        small.update({(4, 1): list(all_cuts(4, 1)), (1, 5): list(all_cuts(1, 5)), (4, 2): list(all_cuts(4, 2))})
        for wants in SMALL_WANTS:
            told = stairs(wants)
            for bits, (size, trees) in itertools.product(told, small.items()):
                due = any(can_mark(wants, numbers_of(bits), sizes) for sizes in trees)
                self.assertEqual(any(within(least, *size) for least in told[bits]), due, (wants, bits, size))

    def test_small_wants_on_all_sizes(self):
        for wants in SMALL_WANTS:
            self.assertEqual(stairs(wants), stairs_due(wants), wants)

    def test_drawn_wants_on_all_sizes(self):
        chance = random.Random(22)
        for trial in range(25):
            wants = any_wants(chance, chance.randint(2, 4), chance.choice((3, 5, 8, 12)))
            self.assertEqual(stairs(wants), stairs_due(wants), wants)

    def test_six_wants(self):
        for wants in (SIX_WANTS, [(2, 3, True)] * 3 + [(4, 1, False), (1, 1, True), (5, 2, True)]):
            begin = time.process_time()
            told = stairs(wants)
            self.assertLess(time.process_time() - begin, 5)
            self.assertEqual(told, stairs_due(wants))

    def test_turned_wants_have_turned_sizes(self):
        chance = random.Random(220)
        for trial in range(10):
            wants = any_wants(chance, 5, 6)
            told = stairs([(height, width, turns) for width, height, turns in wants])
            self.assertEqual(told, {bits: sorted(size[::-1] for size in least)
                                    for bits, least in stairs(wants).items()})


class TestStairTree(StairsCase):
    def test_one_want(self):
        self.assertEqual(written(stair_tree([(3, 2, False)], 1, 3, 2)), "#0")
        self.assertEqual(written(stair_tree([(3, 2, True)], 1, 2, 3)), "#0")
        self.check_serves([(3, 2, False)], 1, 4, 2)
        self.check_serves([(3, 2, False)], 1, 3, 3)
        self.check_serves([(3, 2, False)], 1, 12, 12)
        self.refused(NoSize, "size", (2, 3), stair_tree, [(3, 2, False)], 1, 2, 3)
        self.refused(NoSize, "size", (2, 12), stair_tree, [(3, 2, False)], 1, 2, 12)
        self.refused(NoSize, "size", (12, 1), stair_tree, [(3, 2, True)], 1, 12, 1)

    def test_all_sizes_for_small_wants(self):
        for wants in SMALL_WANTS:
            self.check_trees(wants, itertools.product(range(1, 6), repeat=2))

    def test_drawn_wants(self):
        chance = random.Random(21)
        for trial in range(12):
            wants = any_wants(chance, chance.randint(1, 5), chance.choice((2, 4, 7)))
            sizes = [(chance.randint(1, 12), chance.randint(1, 12)) for place in range(8)]
            self.check_trees(wants, sizes + [(12, 12), (1, 12), (12, 1)])

    def test_the_least_sizes_and_greater_ones(self):
        for wants in (SIX_WANTS, [(2, 2, True)] * 6):
            for bits, least in stairs(wants).items():
                for width, height in least:
                    self.check_serves(wants, bits, width, height)
                    self.check_serves(wants, bits, min(12, width + 1), min(12, height + 2))
                    for less in ((width - 1, height), (width, height - 1)):
                        if min(less) > 0:
                            self.refused(NoSize, "size", less, stair_tree, wants, bits, *less)

    def test_sets_that_no_size_will_do_for(self):
        wants = [(12, 12, False), (1, 1, False)]
        for size in ((1, 1), (12, 12), (5, 12)):
            self.refused(NoSize, "size", size, stair_tree, wants, 3, *size)
        self.check_serves(wants, 1, 12, 12)
        self.check_serves(wants, 2, 12, 12)

    def test_six_wants_in_good_time(self):
        begin = time.process_time()
        self.check_serves(SIX_WANTS, 63, 12, 12)
        self.assertLess(time.process_time() - begin, 5)

    def test_the_same_again(self):
        for bits in range(1, 64):
            tree, again = stair_tree(SIX_WANTS, bits, 12, 11), stair_tree(list(SIX_WANTS), bits, 12, 11)
            self.assertTrue(tree.same(again))
            self.assertIsNot(tree, again)

    def test_arguments_by_name(self):
        self.assertEqual(stairs(wants=[(1, 1, False)]), {1: [(1, 1)]})
        self.assertEqual(written(stair_tree(wants=[(2, 1, False)], bits=1, width=2, height=1)), "#0")


def ask_stair_tree(wants):
    return stair_tree(wants, 1, 12, 12)


class TestRefused(StairsCase):
    ASKED = (stairs, ask_stair_tree)

    def test_too_many_wants(self):
        for asked in self.ASKED:
            for many in (7, 8, 50):
                self.refused(TooMany, "many", many, asked, [GOOD] * many)
                self.refused(TooMany, "many", many, asked, [Touchy()] * many)
                self.refused(TooMany, "many", many, asked, [GOOD] * (many - 1) + [None])
            asked([GOOD] * 6)

    def test_no_want_of_anything(self):
        for asked in self.ASKED:
            for thing in NO_WANTS:
                self.refused(NoWant, "place", 0, asked, [thing])
                self.refused(NoWant, "place", 2, asked, [GOOD, GOOD, thing, GOOD, thing])
                self.refused(NoWant, "place", 5, asked, [GOOD] * 5 + [thing])

    def test_the_wants_ahead_of_all_else(self):
        for bits, width, height in ((0, 3, 3), (None, 3, 3), (1, 0, 3), (1, 3, True), (1, 1, 1), (0, 0, 0)):
            self.refused(TooMany, "many", 7, stair_tree, [GOOD] * 7, bits, width, height)
            self.refused(NoWant, "place", 1, stair_tree, [GOOD, None], bits, width, height)

    def test_no_side_of_anything(self):
        for thing in NO_SIDES:
            self.refused_itself(NoSide, "side", thing, stair_tree, [GOOD], 1, thing, 3)
            self.refused_itself(NoSide, "side", thing, stair_tree, [GOOD], 1, 3, thing)
            self.refused_itself(NoSide, "side", thing, stair_tree, [GOOD], 1, thing, 0)
            self.refused_itself(NoSide, "side", 13, stair_tree, [GOOD], 1, 13, thing)

    def test_no_side_ahead_of_no_number(self):
        for bits in (0, -1, 2, 64, None, True):
            self.refused(NoSide, "side", 0, stair_tree, [GOOD], bits, 0, 3)
            self.refused(NoSide, "side", 13, stair_tree, [GOOD], bits, 3, 13)
        self.refused(NoSide, "side", 0, stair_tree, [], 1, 0, 3)

    def test_no_number_of_anything(self):
        for thing in NO_WHOLES:
            for many in (0, 1, 2, 6):
                self.refused_itself(NoNumber, "number", thing, stair_tree, [(1, 1, True)] * many, thing, 12, 12)

    def test_bits_beyond(self):
        for many in range(7):
            for bits in (0, -1, -2, -2 ** many, 2 ** many, 2 ** many + 1, 64, 65, 10 ** 30, 10 ** 5000, -10 ** 5000):
                self.refused(NoNumber, "number", bits, stair_tree, [(1, 1, True)] * many, bits, 12, 12)
            for bits in range(1, 2 ** many):
                self.check_serves([(1, 1, True)] * many, bits, 6, 1)

    def test_no_number_ahead_of_no_size(self):
        self.refused(NoNumber, "number", 2, stair_tree, [(5, 5, True)], 2, 1, 1)
        self.refused(NoNumber, "number", 0, stair_tree, [(5, 5, True)], 0, 1, 1)
        self.refused(NoSize, "size", (1, 1), stair_tree, [(5, 5, True)], 1, 1, 1)

    def test_wants_at_the_edges(self):
        for want in ((1, 1, True), (12, 12, False), (1, 12, True), (12, 1, False)):
            for asked in self.ASKED:
                asked([want])


class TestOnesOwn(StairsCase):
    def test_nothing_that_is_handed_in_is_changed(self):
        wants = list(SIX_WANTS)
        stairs(wants)
        stair_tree(wants, 63, 12, 12)
        self.assertEqual(wants, SIX_WANTS)

    def test_what_is_told_is_the_askers_own(self):
        wants = [(2, 1, True), (2, 1, True)]
        due = {1: [(1, 2), (2, 1)], 2: [(1, 2), (2, 1)], 3: [(1, 4), (2, 2), (4, 1)]}
        told = stairs(wants)
        self.assertEqual(told, due)
        # Lists that are alike are lists of their own too.
        told[1].clear()
        self.assertEqual(told[2], due[2])
        wants.append((1, 1, True))
        self.assertEqual(sorted(told), [1, 2, 3])
        told.clear()
        self.assertEqual(stairs(wants[:2]), due)

    def test_trees_are_of_no_parts_in_common(self):
        def parts(some):
            return [some] if isinstance(some, Whole) else [some] + parts(some.first) + parts(some.other)

        tree, again = stair_tree(SIX_WANTS, 63, 12, 12), stair_tree(SIX_WANTS, 63, 12, 12)
        self.assertFalse({id(part) for part in parts(tree)} & {id(part) for part in parts(again)})


if __name__ == "__main__":
    unittest.main()
