"""What sheets with flaws are worth, and best trees of them [2, 3, 20, the interface]."""

import functools
import itertools
import random
import time
import unittest

from glazebench.cuts import Tree, Whole, pieces
from glazebench.cuttexts import written
from glazebench.errors import GlassError, NoFlaw, NoKind, NoSide, TooMany
from glazebench.flaws import flawed_best, flawed_worths
from glazebench.worths import worth_of, worths


class Touchy:
    """A thing that fails wherever it is compared, counted or written out."""

    def fail(self, *things):
        raise RuntimeError("touched")

    __eq__ = __lt__ = __le__ = __gt__ = __ge__ = fail
    __len__ = __iter__ = __getitem__ = __int__ = __index__ = __bool__ = __repr__ = fail
    __hash__ = None


NO_WHOLES = [None, True, False, 0.5, 0.0, 1.0, float("nan"), 2j, "", "0", b"0", [], [0], (), (0,), {}, {0: 0}, set(),
             range(4), object(), int, len, Whole(), Touchy()]
NO_SIDES = NO_WHOLES + [0, -1, 8, 9, 12, 13, 10 ** 5000, -10 ** 5000]

GOOD = (2, 1, 5, True)
NO_KINDS = [None, list(GOOD), GOOD[:3], GOOD + (True,), (0, 1, 5, True), (2, 13, 5, True), (2, 1, -1, True),
            (2, 1, 10 ** 9 + 1, True), (True, 1, 5, True), (2, 1, False, True), (2, 1, 5, 1), (2, 1, 5, None), Touchy()]
# No squares of a sheet three wide and two high.
NO_FLAWS = ([None, True, 0, 0.5, "", "00", "0 0", b"00", [], [0, 0], [1, 1], {}, {0: 0, 1: 1}, {0, 1}, range(2),
             object(), tuple, Whole(), Touchy(), (), (0,), (0, 0, 0), (0, 0, 1, 1), ((0, 0),), (-1, 0), (0, -1), (2, 0),
             (0, 3), (1, 3), (2, 2), (2, 3), (7, 7), (10 ** 5000, 0), (0, -10 ** 5000), ("0", 0), (0, "0")]
            + [(thing, 0) for thing in NO_WHOLES] + [(0, thing) for thing in NO_WHOLES])

SOME_KINDS = (
    [], [(1, 1, 1, False)], [(1, 1, 0, True)], [(2, 1, 3, False)], [(2, 1, 3, True)], [(1, 2, 3, False)],
    [(1, 1, 1, True), (2, 2, 5, True)], [(2, 2, 3, False), (1, 1, 1, False)], [(3, 2, 7, True), (1, 2, 2, True)],
    [(2, 1, 4, False), (2, 1, 3, True)], [(1, 3, 4, False), (3, 1, 5, False), (2, 2, 6, True)],
    [(1, 1, 1, True), (2, 1, 3, False), (3, 1, 5, True), (2, 2, 7, False), (1, 3, 3, False), (3, 2, 10, False),
     (3, 3, 16, True), (2, 3, 9, False)])

EIGHT_KINDS = [(3, 2, 7, True), (5, 4, 25, False), (1, 1, 1, True), (7, 2, 19, True), (2, 2, 5, True),
               (3, 3, 12, False), (4, 1, 5, True), (1, 6, 8, False)]


def all_rectangles(width, height):
    runs = [[(begin, end) for begin in range(length) for end in range(begin + 1, length + 1)]
            for length in (height, width)]
    return sorted((top, left, bottom, right) for (top, bottom), (left, right) in itertools.product(*runs))


def all_squares(width, height):
    return list(itertools.product(range(height), range(width)))


def stands(kind, rectangle):
    width, height = rectangle[3] - rectangle[1], rectangle[2] - rectangle[0]
    return kind[:2] == (width, height) or kind[3] and kind[:2] == (height, width)


def has_flaw(rectangle, flaws):
    top, left, bottom, right = rectangle
    return any(row in range(top, bottom) and column in range(left, right) for row, column in flaws)


def all_trees(rectangle, kinds, flaws):
    """The worths of all trees laid for a rectangle as a sheet, told one by one."""
    yield 0
    if not has_flaw(rectangle, flaws):
        for kind in kinds:
            if stands(kind, rectangle):
                yield kind[2]
    top, left, bottom, right = rectangle
    both = [((top, left, bottom, line), (top, line, bottom, right)) for line in range(left + 1, right)]
    both += [((top, left, line, right), (line, left, bottom, right)) for line in range(top + 1, bottom)]
    for first, other in both:
        for pair in itertools.product(all_trees(first, kinds, flaws), list(all_trees(other, kinds, flaws))):
            yield sum(pair)


def worths_due(width, height, kinds, flaws):
    """Point 20 told once more for greater sheets."""
    @functools.lru_cache(None)
    def greatest(top, left, bottom, right):
        piece = (top, left, bottom, right)
        found = [0]
        if not has_flaw(piece, flaws):
            found += [kind[2] for kind in kinds if stands(kind, piece)]
        found += [greatest(top, left, bottom, line) + greatest(top, line, bottom, right)
                  for line in range(left + 1, right)]
        found += [greatest(top, left, line, right) + greatest(line, left, bottom, right)
                  for line in range(top + 1, bottom)]
        return max(found)
    return {piece: greatest(*piece) for piece in all_rectangles(width, height)}


def any_kinds(chance, many, longest, greatest):
    return [(chance.randint(1, longest), chance.randint(1, longest), chance.randint(0, greatest),
             chance.random() < 0.5) for place in range(many)]


def some_flaws(chance, many, width, height):
    return [(chance.randrange(height), chance.randrange(width)) for place in range(many)]


class FlawsCase(unittest.TestCase):
    def refused(self, kind, name, value, asked, *things):
        with self.assertRaises(GlassError) as caught:
            asked(*things)
        self.assertIs(type(caught.exception), kind)
        self.assertEqual(getattr(caught.exception, name), value)

    def side_refused(self, side, asked, *things):
        with self.assertRaises(GlassError) as caught:
            asked(*things)
        self.assertIs(type(caught.exception), NoSide)
        self.assertIs(caught.exception.side, side)

    def check_best(self, width, height, kinds, flaws, due):
        tree = flawed_best(width, height, kinds, flaws)
        self.assertIsInstance(tree, Tree)
        self.assertTrue(tree.fits(width, height))
        total = 0
        for piece, mark in pieces(tree, width, height):
            if mark is not None:
                self.assertTrue(0 <= mark < len(kinds))
                self.assertTrue(stands(kinds[mark], piece))
                self.assertFalse(has_flaw(piece, flaws))
                total += kinds[mark][2]
        self.assertEqual(total, due)
        self.assertEqual(worth_of(tree, width, height, kinds), due)


class TestFlawedWorths(FlawsCase):
    def test_a_plain_one(self):
        kinds = [(2, 1, 3, False), (1, 1, 1, False)]
        self.assertEqual(flawed_worths(2, 2, kinds, [(0, 1)]), {
            (0, 0, 1, 1): 1, (0, 1, 1, 2): 0, (1, 0, 2, 1): 1, (1, 1, 2, 2): 1, (0, 0, 1, 2): 1, (1, 0, 2, 2): 3,
            (0, 0, 2, 1): 2, (0, 1, 2, 2): 1, (0, 0, 2, 2): 4})

    def test_a_square_is_a_row_and_a_column(self):
        kinds = [(1, 1, 1, False)]
        told = flawed_worths(3, 2, kinds, [(0, 2)])
        self.assertEqual((told[(0, 2, 1, 3)], told[(0, 0, 1, 3)], told[(1, 0, 2, 3)]), (0, 2, 3))
        told = flawed_worths(2, 3, kinds, [(2, 0)])
        self.assertEqual((told[(2, 0, 3, 1)], told[(0, 0, 3, 1)], told[(0, 1, 3, 2)]), (0, 2, 3))

    def test_flaws_at_each_edge_of_a_piece(self):
        kinds = [(3, 3, 9, False)]
        for square in all_squares(5, 5):
            told = flawed_worths(5, 5, kinds, [square])
            for piece in all_rectangles(5, 5):
                if piece[2] - piece[0] == 3 and piece[3] - piece[1] == 3:
                    self.assertEqual(told[piece], 0 if has_flaw(piece, [square]) else 9)

    def test_the_keys_are_just_the_rectangles(self):
        for width, height in ((1, 1), (7, 1), (1, 7), (3, 5), (7, 7)):
            for kinds, flaws in (([], []), ([(1, 1, 1, False)], []), ([(2, 1, 1, True)], [(0, 0)])):
                told = flawed_worths(width, height, kinds, flaws)
                self.assertIs(type(told), dict)
                self.assertEqual(sorted(told), all_rectangles(width, height))
                self.assertTrue(all(type(key) is tuple for key in told))
                self.assertTrue(all(type(worth) is int for worth in told.values()))

    def test_without_flaws_the_worths_are_those_of_the_sizes(self):
        chance = random.Random(200)
        for width, height in ((1, 1), (4, 2), (3, 5), (7, 6), (7, 7)):
            for kinds in ([], EIGHT_KINDS, any_kinds(chance, 8, 4, 9), any_kinds(chance, 5, 7, 10 ** 9)):
                told, due = flawed_worths(width, height, kinds, []), worths(width, height, kinds)
                for (top, left, bottom, right), worth in told.items():
                    self.assertEqual(worth, due[(right - left, bottom - top)])

    def test_all_squares_flawed(self):
        for width, height in ((1, 1), (3, 2), (7, 7)):
            flaws = all_squares(width, height)
            self.assertEqual(set(flawed_worths(width, height, EIGHT_KINDS, flaws).values()), {0})
            self.check_best(width, height, EIGHT_KINDS, flaws, 0)

    def test_all_squares_flawed_but_one(self):
        for square in all_squares(3, 4):
            flaws = [other for other in all_squares(3, 4) if other != square]
            told = flawed_worths(3, 4, [(1, 1, 6, False), (2, 1, 50, True)], flaws)
            for piece, worth in told.items():
                self.assertEqual(worth, 6 if has_flaw(piece, [square]) else 0)

    def test_flaws_that_are_alike(self):
        flaws = [(1, 1), (0, 2)]
        due = flawed_worths(4, 3, EIGHT_KINDS, flaws)
        for same in ([(1, 1), (0, 2), (1, 1)], [(0, 2), (1, 1)] * 24, [(0, 2)] + [(1, 1)] * 48):
            self.assertEqual(flawed_worths(4, 3, EIGHT_KINDS, same), due)
            self.check_best(4, 3, EIGHT_KINDS, same, due[(0, 0, 3, 4)])

    def test_all_trees_told_one_by_one(self):
        for kinds in SOME_KINDS:
            for width, height in ((1, 1), (2, 1), (1, 3), (2, 2), (4, 1)):
                for many in range(min(3, width * height) + 1):
                    for flaws in itertools.combinations(all_squares(width, height), many):
                        told = flawed_worths(width, height, kinds, list(flaws))
                        for piece in all_rectangles(width, height):
                            self.assertEqual(told[piece], max(all_trees(piece, kinds, flaws)), (piece, kinds, flaws))

    def test_all_trees_of_six_squares_told_one_by_one(self):
        for kinds in SOME_KINDS:
            if len(kinds) <= 2:
                for width, height, flaws in ((3, 2, [(0, 1)]), (2, 3, [(1, 0)]), (3, 2, [(1, 2), (0, 0)])):
                    due = max(all_trees((0, 0, height, width), kinds, flaws))
                    self.assertEqual(flawed_worths(width, height, kinds, flaws)[(0, 0, height, width)], due)
                    self.check_best(width, height, kinds, flaws, due)

    def test_all_trees_of_nine_squares_told_one_by_one(self):
        for kinds in ([(2, 1, 3, True)], [(2, 2, 7, False), (3, 1, 5, False)], [(2, 3, 4, True), (1, 2, 1, False)]):
            for flaws in ([], [(1, 1)], [(0, 2), (2, 0)]):
                told = flawed_worths(3, 3, kinds, flaws)
                for piece in all_rectangles(3, 3):
                    self.assertEqual(told[piece], max(all_trees(piece, kinds, flaws)), (piece, kinds, flaws))

    def test_greater_sheets(self):
        chance = random.Random(201)
        for trial in range(30):
            width, height = chance.randint(1, 7), chance.randint(1, 7)
            kinds = any_kinds(chance, chance.randint(1, 8), chance.randint(2, 7), chance.choice((3, 100, 10 ** 9)))
            flaws = some_flaws(chance, chance.choice((1, 2, 3, 8, 20)), width, height)
            due = worths_due(width, height, kinds, flaws)
            self.assertEqual(flawed_worths(width, height, kinds, flaws), due)
            self.check_best(width, height, kinds, flaws, due[(0, 0, height, width)])

    def test_each_rectangle_as_a_sheet_of_its_own(self):
        flaws = [(0, 0), (2, 3), (4, 1), (3, 3)]
        for (top, left, bottom, right), worth in flawed_worths(5, 5, EIGHT_KINDS, flaws).items():
            inner = [(row - top, column - left) for row, column in flaws
                     if has_flaw((top, left, bottom, right), [(row, column)])]
            sheet = (0, 0, bottom - top, right - left)
            self.assertEqual(flawed_worths(sheet[3], sheet[2], EIGHT_KINDS, inner)[sheet], worth)

    def test_the_greatest_sheet_in_good_time(self):
        begin = time.process_time()
        flaws = some_flaws(random.Random(202), 6, 7, 7) * 8
        told = flawed_worths(7, 7, EIGHT_KINDS, flaws)
        self.check_best(7, 7, EIGHT_KINDS, flaws, told[(0, 0, 7, 7)])
        self.assertLess(time.process_time() - begin, 5)
        self.assertEqual(told, worths_due(7, 7, EIGHT_KINDS, flaws))


class TestFlawedBest(FlawsCase):
    def test_one_that_is_the_only_best(self):
        self.assertEqual(written(flawed_best(2, 1, [(1, 1, 4, False)], [(0, 0)])), "|1 . #0")
        self.assertEqual(written(flawed_best(2, 1, [(1, 1, 4, False), (2, 1, 9, False)], [])), "#1")
        self.assertEqual(written(flawed_best(1, 2, [(2, 1, 9, True), (1, 1, 4, False)], [(1, 0)])), "-1 #1 .")

    def test_small_sheets(self):
        chance = random.Random(203)
        for kinds in SOME_KINDS:
            for width, height in itertools.product(range(1, 5), repeat=2):
                flaws = some_flaws(chance, chance.randint(0, 4), width, height)
                due = flawed_worths(width, height, kinds, flaws)[(0, 0, height, width)]
                self.check_best(width, height, kinds, flaws, due)

    def test_the_same_again(self):
        chance = random.Random(204)
        for trial in range(10):
            kinds = any_kinds(chance, 8, 4, 5)
            flaws = some_flaws(chance, 4, 6, 7)
            tree, again = flawed_best(6, 7, kinds, flaws), flawed_best(6, 7, list(kinds), list(flaws))
            self.assertTrue(tree.same(again))
            self.assertIsNot(tree, again)

    def test_arguments_by_name(self):
        things = {"width": 2, "height": 1, "kinds": [(1, 1, 4, False)], "flaws": [(0, 0)]}
        self.assertEqual(written(flawed_best(**things)), "|1 . #0")
        self.assertEqual(flawed_worths(**things), {(0, 0, 1, 1): 0, (0, 1, 1, 2): 4, (0, 0, 1, 2): 4})


class TestRefused(FlawsCase):
    ASKED = (flawed_worths, flawed_best)

    def test_no_side_of_anything(self):
        for asked in self.ASKED:
            for thing in NO_SIDES:
                self.side_refused(thing, asked, thing, 3, [], [])
                self.side_refused(thing, asked, 3, thing, [], [])
                self.side_refused(thing, asked, thing, 8, [], [])
                self.side_refused(8, asked, 8, thing, [], [])

    def test_no_side_ahead_of_all_else(self):
        for asked in self.ASKED:
            for kinds, flaws in (([GOOD] * 9, []), ([None], []), ([], [None] * 50), ([], [None])):
                self.side_refused(8, asked, 8, 3, kinds, flaws)
                self.side_refused(True, asked, 3, True, kinds, flaws)

    def test_too_many_kinds(self):
        for asked in self.ASKED:
            for flaws in ([], [None], [(0, 0)] * 50):
                self.refused(TooMany, "many", 9, asked, 3, 2, [GOOD] * 9, flaws)
                self.refused(TooMany, "many", 11, asked, 3, 2, [Touchy()] * 11, flaws)
            asked(3, 2, [GOOD] * 8, [])

    def test_no_kind(self):
        for asked in self.ASKED:
            for flaws in ([], [None], [(0, 0)] * 50):
                for thing in NO_KINDS:
                    self.refused(NoKind, "place", 0, asked, 3, 2, [thing], flaws)
                    self.refused(NoKind, "place", 1, asked, 3, 2, [GOOD, thing, None], flaws)

    def test_too_many_flaws(self):
        for asked in self.ASKED:
            for many in (50, 51, 100):
                self.refused(TooMany, "many", many, asked, 3, 2, [GOOD], [(0, 0)] * many)
                self.refused(TooMany, "many", many, asked, 3, 2, [GOOD], [Touchy()] * many)
            asked(3, 2, [GOOD], [(0, 0)] * 49)

    def test_no_flaw_of_anything(self):
        for asked in self.ASKED:
            for thing in NO_FLAWS:
                self.refused(NoFlaw, "place", 0, asked, 3, 2, [GOOD], [thing])
                self.refused(NoFlaw, "place", 2, asked, 3, 2, [], [(0, 0), (1, 2), thing, (0, 0), thing])
                self.refused(NoFlaw, "place", 48, asked, 3, 2, [GOOD], [(1, 2)] * 48 + [thing])

    def test_squares_beyond_the_sheet(self):
        # Rows are held against the height, columns against the width.
        for width, height in ((7, 1), (1, 7), (3, 5), (7, 7)):
            for row, column in itertools.product(range(-2, 10), repeat=2):
                if 0 <= row < height and 0 <= column < width:
                    flawed_best(width, height, [], [(row, column)])
                else:
                    self.refused(NoFlaw, "place", 1, flawed_best, width, height, [], [(0, 0), (row, column)])


class TestOnesOwn(FlawsCase):
    def test_nothing_that_is_handed_in_is_changed(self):
        kinds, flaws = list(EIGHT_KINDS), [(3, 2), (0, 0), (3, 2)]
        flawed_worths(4, 5, kinds, flaws)
        flawed_best(4, 5, kinds, flaws)
        self.assertEqual((kinds, flaws), (EIGHT_KINDS, [(3, 2), (0, 0), (3, 2)]))

    def test_the_dict_is_the_askers_own(self):
        kinds, flaws = [(1, 1, 1, False)], [(0, 0)]
        due = flawed_worths(3, 3, kinds, flaws)
        told = flawed_worths(3, 3, kinds, flaws)
        self.assertIsNot(told, due)
        flaws.append((1, 1))
        kinds.append((2, 1, 9, True))
        self.assertEqual(told, due)
        told.clear()
        self.assertEqual(flawed_worths(3, 3, [(1, 1, 1, False)], [(0, 0)]), due)


if __name__ == "__main__":
    unittest.main()
