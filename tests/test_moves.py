"""Moves and rows of moves [2, 3, 15, 16, the interface]."""

import itertools
import random
import unittest

from glazebench.cuts import Level, Tree, Upright, Whole, pieces
from glazebench.errors import GlassError, NoCut, NoMove, NoSide, Unlike
from glazebench.moves import led, moved


class Touchy:
    """A thing that fails wherever it is compared, counted or written out."""

    def fail(self, *things):
        raise RuntimeError("touched")

    __eq__ = __lt__ = __le__ = __gt__ = __ge__ = fail
    __len__ = __iter__ = __getitem__ = __int__ = __index__ = __bool__ = __repr__ = fail
    __hash__ = None


NO_SIDES = [None, True, False, 0, -1, 13, 10 ** 5000, 0.5, 3.0, float("nan"), "", "3", [], [3], (), (3,), {}, set(),
            range(4), object(), int, Whole(), Touchy()]
WORDS = ("lean", "back", "cross")
NO_WORDS = [None, True, 0, 1, "", "Lean", "LEAN", " lean", "lean ", "backs", "leanback", "upright", "level", b"lean",
            [], ["lean"], ("lean",), {}, {"lean": True}, object(), 1.5, Touchy()]
KINDS = (Upright, Level)
ACROSS = {Upright: Level, Level: Upright}
A, B, C, D = Whole(1), Whole(2), Whole(3), Whole(4)


def strip(kind, many, part=None):
    """So many pieces in a row, each cut off by a cut at 1, the first ones first; the same object for each."""
    part = Whole() if part is None else part
    tree = part
    for count in range(many - 1):
        tree = kind(1, part, tree)
    return tree


def strip_from_behind(kind, many, part=None):
    """The same pieces, the last ones cut off first."""
    part = Whole() if part is None else part
    tree = part
    for at in range(1, many):
        tree = kind(at, tree, part)
    return tree


def halved(width, height):
    """A sheet cut up into its squares, each piece through its middle; no object stands in it twice."""
    if height > 1 and height >= width:
        return Level(height // 2, halved(width, height // 2), halved(width, height - height // 2))
    if width > 1:
        return Upright(width // 2, halved(width // 2, height), halved(width - width // 2, height))
    return Whole()


def parts(tree):
    if isinstance(tree, Whole):
        return [tree]
    return [tree] + parts(tree.first) + parts(tree.other)


# Trees told once more, as plain tuples: ("whole", mark) or (kind, at, first, other).

def made(plain):
    if plain[0] == "whole":
        return Whole(plain[1])
    return {"upright": Upright, "level": Level}[plain[0]](plain[1], made(plain[2]), made(plain[3]))


def plain_of(tree):
    if type(tree) is Whole:
        return ("whole", tree.mark)
    return ({Upright: "upright", Level: "level"}[type(tree)], tree.at, plain_of(tree.first), plain_of(tree.other))


def places_in(plain):
    if plain[0] == "whole":
        return [()]
    firsts = [(0,) + steps for steps in places_in(plain[2])]
    return [()] + firsts + [(1,) + steps for steps in places_in(plain[3])]


def plain_moved(plain, steps, word):
    """Point 15 told once more; None where no such move is there."""
    if plain[0] == "whole":
        return None
    kind, at, first, other = plain
    if steps:
        part = plain_moved((first, other)[steps[0]], steps[1:], word)
        if part is None:
            return None
        return (kind, at, part, other) if steps[0] == 0 else (kind, at, first, part)
    if word == "lean" and first[0] == kind:
        return (kind, first[1], first[2], (kind, at - first[1], first[3], other))
    if word == "back" and other[0] == kind:
        return (kind, at + other[1], (kind, at, first, other[2]), other[3])
    across = "level" if kind == "upright" else "upright"
    if word == "cross" and (across, across) == (first[0], other[0]) and first[1] == other[1]:
        return (across, first[1], (kind, at, first[2], other[2]), (kind, at, first[3], other[3]))
    return None


def all_trees(width, height, marks):
    """All plain trees that fit this size."""
    found = [("whole", mark) for mark in marks]
    for at in range(1, width):
        firsts, others = all_trees(at, height, marks), all_trees(width - at, height, marks)
        found += [("upright", at, first, other) for first, other in itertools.product(firsts, others)]
    for at in range(1, height):
        firsts, others = all_trees(width, at, marks), all_trees(width, height - at, marks)
        found += [("level", at, first, other) for first, other in itertools.product(firsts, others)]
    return found


def any_tree_of(chance, some):
    """Any one tree of these pieces, of which there is one, each line that goes through as likely as another one."""
    if len(some) == 1:
        return Whole(some[0][1])
    cuts = []
    for kind, low, high in ((Upright, 1, 3), (Level, 0, 2)):
        begin = min(pane[low] for pane, mark in some)
        for line in range(begin + 1, max(pane[high] for pane, mark in some)):
            ahead = [piece for piece in some if piece[0][high] <= line]
            behind = [piece for piece in some if piece[0][low] >= line]
            if len(ahead) + len(behind) == len(some):
                cuts.append((kind, line - begin, ahead, behind))
    kind, at, ahead, behind = chance.choice(cuts)
    return kind(at, any_tree_of(chance, ahead), any_tree_of(chance, behind))


def any_tree(chance, width, height, rest):
    cuts = [(Upright, at) for at in range(1, width)] + [(Level, at) for at in range(1, height)]
    if not cuts or chance.random() < rest:
        return Whole(chance.choice((None, 0, 1, 999)))
    kind, at = chance.choice(cuts)
    if kind is Upright:
        return kind(at, any_tree(chance, at, height, rest), any_tree(chance, width - at, height, rest))
    return kind(at, any_tree(chance, width, at, rest), any_tree(chance, width, height - at, rest))


class MovesCase(unittest.TestCase):
    def refused(self, kind, asked, *things):
        with self.assertRaises(GlassError) as caught:
            asked(*things)
        self.assertIs(type(caught.exception), kind)
        return caught.exception

    def check_moved(self, tree, steps, word, due):
        self.assertEqual(plain_of(moved(tree, (steps, word))), plain_of(due))

    def check_no_move(self, tree, steps, word):
        self.assertIs(self.refused(NoMove, moved, tree, (steps, word)).steps, steps)


class TestMoved(MovesCase):
    def test_lean(self):
        for kind in KINDS:
            self.check_moved(kind(5, kind(2, A, B), C), (), "lean", kind(2, A, kind(3, B, C)))
            self.check_moved(kind(2, kind(1, A, B), C), (), "lean", kind(1, A, kind(1, B, C)))
            self.check_moved(kind(11, kind(10, A, B), C), (), "lean", kind(10, A, kind(1, B, C)))

    def test_back(self):
        for kind in KINDS:
            self.check_moved(kind(2, A, kind(3, B, C)), (), "back", kind(5, kind(2, A, B), C))
            self.check_moved(kind(1, A, kind(1, B, C)), (), "back", kind(2, kind(1, A, B), C))
            self.check_moved(kind(10, A, kind(1, B, C)), (), "back", kind(11, kind(10, A, B), C))

    def test_cross(self):
        for kind in KINDS:
            other = ACROSS[kind]
            self.check_moved(kind(5, other(2, A, B), other(2, C, D)), (), "cross",
                             other(2, kind(5, A, C), kind(5, B, D)))
            self.check_moved(kind(3, other(3, A, B), other(3, C, D)), (), "cross",
                             other(3, kind(3, A, C), kind(3, B, D)))

    def test_parts_that_are_cuts_themselves_stay_as_they_are(self):
        deep = Upright(2, Level(1, Whole(7), Whole()), Whole(0))
        for kind in KINDS:
            other = ACROSS[kind]
            self.check_moved(kind(7, kind(3, deep, A), deep), (), "lean", kind(3, deep, kind(4, A, deep)))
            self.check_moved(kind(7, kind(3, A, deep), B), (), "lean", kind(3, A, kind(4, deep, B)))
            self.check_moved(kind(3, A, kind(4, deep, B)), (), "back", kind(7, kind(3, A, deep), B))
            self.check_moved(kind(3, other(4, A, deep), other(4, B, C)), (), "cross",
                             other(4, kind(3, A, B), kind(3, deep, C)))

    def test_where_more_than_one_move_is_there(self):
        for kind in KINDS:
            tree = kind(4, kind(1, A, B), kind(2, C, D))
            self.check_moved(tree, (), "lean", kind(1, A, kind(3, B, kind(2, C, D))))
            self.check_moved(tree, (), "back", kind(6, kind(4, kind(1, A, B), C), D))

    def test_deep_within(self):
        for kind in KINDS:
            other = ACROSS[kind]
            pairs = ((kind(5, kind(2, A, B), C), "lean", kind(2, A, kind(3, B, C))),
                     (kind(2, A, kind(3, B, C)), "back", kind(5, kind(2, A, B), C)),
                     (kind(5, other(2, A, B), other(2, C, D)), "cross", other(2, kind(5, A, C), kind(5, B, D))))
            for (part, word, due), steps in itertools.product(pairs, itertools.product((0, 1), repeat=4)):
                for count in range(5):
                    tree, whole_due = part, due
                    for step in reversed(steps[:count]):
                        around = Level if count % 2 else Upright
                        tree = around(6, tree, D) if step == 0 else around(1, D, tree)
                        whole_due = around(6, whole_due, D) if step == 0 else around(1, D, whole_due)
                    self.check_moved(tree, steps[:count], word, whole_due)

    def test_every_move_of_every_small_tree(self):
        seen = {word: 0 for word in WORDS}
        for width, height, marks in ((4, 1, (None,)), (1, 4, (None,)), (3, 2, (None,)), (2, 3, (None,)),
                                     (2, 2, (None, 0)), (3, 3, (8,))):
            for plain in all_trees(width, height, marks):
                for steps, word in itertools.product(places_in(plain), WORDS):
                    seen[word] += self.check_one(plain, steps, word, width, height)
        self.assertTrue(all(count > 50 for count in seen.values()), seen)

    def check_one(self, plain, steps, word, width, height):
        tree = made(plain)
        due = plain_moved(plain, steps, word)
        if due is None:
            self.check_no_move(tree, steps, word)
        else:
            told = moved(tree, (steps, word))
            self.assertEqual(plain_of(told), due, (plain, steps, word))
            self.assertEqual(pieces(told, width, height), pieces(tree, width, height))
            taken_back = moved(told, (steps, {"lean": "back", "back": "lean", "cross": "cross"}[word]))
            self.assertEqual(plain_of(taken_back), plain)
        self.assertEqual(plain_of(tree), plain)
        return due is not None

    def test_a_lean_taken_back_and_a_cross_made_twice(self):
        for kind in KINDS:
            other = ACROSS[kind]
            tree = Level(3, kind(5, kind(2, A, B), C), D)
            self.check_moved(moved(tree, ((0,), "lean")), (0,), "back", tree)
            tree = Level(3, D, kind(2, A, kind(3, B, C)))
            self.check_moved(moved(tree, ((1,), "back")), (1,), "lean", tree)
            tree = Upright(2, kind(5, other(2, A, B), other(2, C, D)), A)
            self.check_moved(moved(tree, ((0,), "cross")), (0,), "cross", tree)

    def test_parts_that_are_one_object(self):
        part = Upright(2, Upright(1, A, B), C)
        leaned = Upright(1, A, Upright(1, B, C))
        tree = Level(1, part, part)
        self.check_moved(tree, (0,), "lean", Level(1, leaned, part))
        self.check_moved(tree, (1,), "lean", Level(1, part, leaned))
        self.assertIs(tree.first, tree.other)
        crossed = Upright(2, Level(1, part.first, part.first), Level(1, C, C))
        self.check_moved(tree, (), "cross", crossed)
        self.check_moved(crossed, (), "cross", tree)
        both = moved(moved(tree, ((1,), "lean")), ((0,), "lean"))
        self.assertEqual(plain_of(both), plain_of(Level(1, leaned, leaned)))

    def test_the_tree_handed_in_stays_as_it_was(self):
        inner = Upright(2, Upright(1, A, B), C)
        outer = Level(1, inner, D)
        for word, steps in (("lean", (0,)), ("back", (0,)), ("cross", ()), ("none", (1,))):
            move = (steps, word)
            try:
                moved(outer, move)
            except NoMove:
                pass
            self.assertIs(outer.first, inner)
            self.assertIs(outer.other, D)
            self.assertIs(inner.other, C)
            self.assertEqual(plain_of(outer), plain_of(Level(1, Upright(2, Upright(1, A, B), C), D)))
            self.assertEqual(move, (steps, word))

    def test_what_is_told_is_new_in_all_its_parts(self):
        part = Upright(2, Upright(1, A, B), C)
        tree = Level(1, part, Level(1, part, Level(2, D, D)))
        for move in (((0,), "lean"), ((), "back"), ((1, 0), "lean"), ((1,), "back")):
            told = parts(moved(tree, move)) + parts(moved(tree=tree, move=move))
            own = {id(piece) for piece in told}
            self.assertEqual(len(own), len(told))
            self.assertFalse(own & {id(piece) for piece in parts(tree)})
            self.assertTrue(all(isinstance(piece, Tree) for piece in told))

    def test_the_same_again_behind_a_change_of_what_was_told(self):
        tree = Level(1, Upright(2, Upright(1, A, B), C), D)
        told = moved(tree, ((0,), "lean"))
        kept = plain_of(told)
        told.first.at, told.other = 9, Whole(9)
        self.assertEqual(plain_of(moved(tree, ((0,), "lean"))), kept)

    def test_the_squares_of_the_greatest_sheet(self):
        tree = strip(Upright, 12, strip(Level, 12))
        told = moved(tree, ((1,) * 10, "cross"))
        self.assertEqual(pieces(told, 12, 12), pieces(tree, 12, 12))
        told = moved(tree, ((1,) * 9 + (0,) + (1,) * 9, "back"))
        self.assertEqual(told.leaves(), 144)
        self.assertEqual(pieces(told, 12, 12), pieces(tree, 12, 12))


class TestNoMove(MovesCase):
    def test_steps_into_or_beyond_a_whole_piece(self):
        tree = Upright(4, Upright(2, Upright(1, A, B), C), D)
        for word in WORDS:
            for steps in ((), (0,), (1,), (0, 1), (7,)):
                self.check_no_move(Whole(), steps, word)
            for steps in ((1,), (0, 1), (0, 0, 0), (1, 0), (1, 1), (0, 1, 0), (0, 0, 0, 0), (1,) * 30):
                self.check_no_move(tree, steps, word)

    def test_a_step_that_is_neither_0_nor_1(self):
        # With 0 or 1 in the place of the bad step each word would find its move.
        part = Upright(4, Upright(2, A, B), Upright(1, C, D))
        cross = Upright(3, Level(2, A, B), Level(2, C, D))
        for inner, word in ((part, "lean"), (part, "back"), (cross, "cross")):
            tree = Level(1, Level(1, inner, inner), Level(1, inner, inner))
            moved(tree, ((1, 0), word))
            for bad in (2, -1, -2, 10 ** 30, True, False, None, "0", "", 0.0, 1.0, (), (0,), [], Touchy()):
                self.check_no_move(tree, (bad, 0), word)
                self.check_no_move(tree, (1, bad), word)
                self.check_no_move(inner, (bad,), word)

    def test_steps_that_are_no_tuple(self):
        tree = Level(1, Upright(2, Upright(1, A, B), C), D)
        for steps in ([0], [], None, 0, "0", "", {}, Touchy()):
            self.check_no_move(tree, steps, "lean")

    def test_a_whole_piece_below(self):
        for kind in KINDS:
            for word in WORDS:
                self.check_no_move(kind(3, A, B), (), word)
            other = ACROSS[kind]
            self.check_no_move(kind(5, A, kind(2, B, C)), (), "lean")
            self.check_no_move(kind(5, kind(2, A, B), C), (), "back")
            self.check_no_move(kind(5, other(2, A, B), C), (), "cross")
            self.check_no_move(kind(5, A, other(2, B, C)), (), "cross")

    def test_a_cut_of_the_other_kind(self):
        for kind in KINDS:
            other = ACROSS[kind]
            self.check_no_move(kind(5, other(2, A, B), kind(2, C, D)), (), "lean")
            self.check_no_move(kind(5, kind(2, A, B), other(2, C, D)), (), "back")
            self.check_no_move(kind(5, kind(2, A, B), kind(2, C, D)), (), "cross")
            self.check_no_move(kind(5, other(2, A, B), kind(2, C, D)), (), "cross")
            self.check_no_move(kind(5, kind(2, A, B), other(2, C, D)), (), "cross")

    def test_two_crossing_cuts_at_unlike_places(self):
        for kind in KINDS:
            other = ACROSS[kind]
            for one, two in itertools.permutations(range(1, 6), 2):
                self.check_no_move(kind(3, other(one, A, B), other(two, C, D)), (), "cross")
                self.check_no_move(Level(1, D, kind(3, other(one, A, B), other(two, C, D))), (1,), "cross")

    def test_any_other_word(self):
        for kind in KINDS:
            other = ACROSS[kind]
            for tree in (kind(5, kind(2, A, B), kind(2, C, D)), kind(5, other(2, A, B), other(2, C, D)), Whole()):
                for word in NO_WORDS:
                    self.check_no_move(tree, (), word)
                    self.check_no_move(Level(1, tree, D), (0,), word)


class LedCase(MovesCase):
    def check_led(self, one, two, width, height):
        """A row of moves that leads from the one to the other; told back is how long it is."""
        plains = (plain_of(one), plain_of(two))
        row = led(one, two, width, height)
        self.assertIs(type(row), list)
        tree = one
        for move in row:
            self.assertEqual((type(move), len(move), type(move[0])), (tuple, 2, tuple))
            self.assertTrue(all(type(step) is int for step in move[0]))
            self.assertIn(move[1], WORDS)
            tree = moved(tree, move)
        self.assertEqual(plain_of(tree), plain_of(two))
        leaves = one.leaves()
        self.assertLessEqual(len(row), leaves * (leaves - 1))
        self.assertEqual((plain_of(one), plain_of(two)), plains)
        return len(row)


class TestLed(LedCase):
    def test_from_a_tree_to_itself(self):
        for tree, width, height in ((Whole(), 1, 1), (Whole(0), 12, 12), (Upright(1, A, B), 2, 1),
                                    (Level(1, A, Upright(1, B, C)), 2, 2), (halved(4, 4), 4, 4)):
            self.check_led(tree, tree, width, height)
            self.check_led(tree, made(plain_of(tree)), width, height)

    def test_one_leaf_and_two_leaves_have_no_moves(self):
        self.assertEqual(led(Whole(3), Whole(3), 5, 5), [])
        for kind in KINDS:
            self.assertLessEqual(self.check_led(kind(2, A, B), kind(2, A, B), 5, 5), 2)

    def test_one_move(self):
        for kind in KINDS:
            other = ACROSS[kind]
            pairs = ((kind(5, kind(2, A, B), C), kind(2, A, kind(3, B, C))),
                     (kind(5, other(2, A, B), other(2, C, D)), other(2, kind(5, A, C), kind(5, B, D))))
            for one, two in pairs:
                self.check_led(one, two, 9, 9)
                self.check_led(two, one, 9, 9)

    def test_arguments_by_their_names(self):
        one, two = Upright(2, Upright(1, A, B), C), Upright(1, A, Upright(1, B, C))
        self.assertEqual(led(tree=one, other=two, width=3, height=1), led(one, two, 3, 1))

    def test_every_pair_of_small_trees(self):
        pairs = 0
        for width, height in ((4, 1), (1, 5), (3, 2), (2, 3), (3, 3), (4, 2)):
            groups = {}
            for plain in all_trees(width, height, (None,)):
                tree = made(plain)
                groups.setdefault(tuple(pieces(tree, width, height)), []).append(tree)
            for group in groups.values():
                for one, two in itertools.product(group, repeat=2):
                    self.check_led(one, two, width, height)
                    pairs += 1
        self.assertGreater(pairs, 3000)

    def test_some_greater_trees(self):
        chance = random.Random(11)
        for width, height, rest in ((4, 4, 0.1), (5, 4, 0), (12, 3, 0.1), (7, 7, 0.2), (12, 12, 0.3), (6, 8, 0)):
            for count in range(12):
                one = any_tree(chance, width, height, rest)
                two = any_tree_of(chance, pieces(one, width, height))
                self.check_led(one, two, width, height)
                self.check_led(two, one, width, height)

    def test_trees_whose_cuts_all_lie_on_one_side(self):
        for many in range(2, 13):
            for kind in KINDS:
                size = (many, 1) if kind is Upright else (1, many)
                self.check_led(strip(kind, many), strip_from_behind(kind, many), *size)
                self.check_led(strip_from_behind(kind, many), strip(kind, many), *size)

    def test_two_rows_of_cuts_on_one_side(self):
        for one, two in itertools.permutations((
                strip(Level, 4, strip(Upright, 12)), strip_from_behind(Level, 4, strip_from_behind(Upright, 12)),
                strip_from_behind(Upright, 12, strip(Level, 4)), strip(Upright, 12, strip_from_behind(Level, 4))), 2):
            self.check_led(one, two, 12, 4)

    def test_sheets_cut_up_into_squares(self):
        for side in (2, 3, 4, 7):
            trees = (strip(Upright, side, strip(Level, side)), strip(Level, side, strip(Upright, side)),
                     strip_from_behind(Upright, side, strip_from_behind(Level, side)),
                     strip_from_behind(Level, side, strip(Upright, side)), halved(side, side))
            for one, two in itertools.permutations(trees, 2):
                self.check_led(one, two, side, side)

    def test_the_squares_of_the_greatest_sheet(self):
        uprights = strip(Upright, 12, strip(Level, 12))
        levels = strip_from_behind(Level, 12, strip_from_behind(Upright, 12))
        self.check_led(uprights, levels, 12, 12)
        self.check_led(levels, halved(12, 12), 12, 12)

    def test_marks_go_with_their_pieces(self):
        one = Level(1, Upright(2, Upright(1, Whole(), Whole(0)), A), Upright(1, B, Upright(1, Whole(0), Whole())))
        columns = [Level(1, Whole(), B), Level(1, Whole(0), Whole(0)), Level(1, A, Whole())]
        two = Upright(2, Upright(1, columns[0], columns[1]), columns[2])
        self.check_led(one, two, 3, 2)
        self.check_led(two, one, 3, 2)

    def test_parts_that_are_one_object(self):
        part = Upright(1, A, Upright(1, A, A))
        column = Level(1, A, A)
        self.check_led(Level(1, part, part), Upright(2, Upright(1, column, column), column), 3, 2)

    def test_the_same_again_behind_a_change_of_the_list_told(self):
        one, two = halved(4, 4), strip(Upright, 4, strip(Level, 4))
        row = led(one, two, 4, 4)
        kept = list(row)
        again = led(one, two, 4, 4)
        self.assertIsNot(row, again)
        row.clear()
        self.assertEqual(again, kept)
        self.assertEqual(led(one, two, 4, 4), kept)


class TestLedRefused(LedCase):
    BAD = Upright(40, Whole(), Whole())
    WORSE = Level(1, Level(41, Whole(), Whole()), Whole())

    def test_no_side_of_anything_the_width_first(self):
        for thing in NO_SIDES:
            self.assertIs(self.refused(NoSide, led, Whole(), Whole(), thing, 1).side, thing)
            self.assertIs(self.refused(NoSide, led, Whole(), Whole(), 1, thing).side, thing)
            self.assertIs(self.refused(NoSide, led, Whole(), Whole(), thing, 13).side, thing)

    def test_no_side_ahead_of_no_cut_and_unlike(self):
        for one, two in ((self.BAD, Whole()), (Whole(), self.BAD), (Whole(1), Whole(2))):
            self.assertEqual(self.refused(NoSide, led, one, two, 13, 0).side, 13)
            self.assertEqual(self.refused(NoSide, led, one, two, 12, 0).side, 0)

    def test_no_cut_of_the_first_tree_ahead_of_the_other_one_and_of_unlike(self):
        for one, two, at in ((self.BAD, self.WORSE, 40), (self.WORSE, self.BAD, 41), (self.BAD, Whole(), 40),
                             (Whole(), self.BAD, 40), (Whole(), self.WORSE, 41), (self.BAD, self.BAD, 40)):
            self.assertEqual(self.refused(NoCut, led, one, two, 5, 5).at, at)

    def test_no_cut_by_the_size_of_the_sheet(self):
        tree = Upright(2, A, B)
        self.assertEqual(self.refused(NoCut, led, tree, tree, 2, 5).at, 2)
        self.assertEqual(led(tree, tree, 3, 5), [])

    def test_unlike(self):
        for one, two in ((Whole(), Whole(0)), (Whole(0), Whole(1)), (Whole(), Upright(1, Whole(), Whole())),
                         (Upright(1, A, B), Upright(1, B, A)), (Upright(1, A, B), Upright(2, A, B)),
                         (Upright(1, A, B), Level(1, A, B)), (Upright(1, A, B), Upright(1, A, Whole()))):
            self.refused(Unlike, led, one, two, 3, 3)
            self.refused(Unlike, led, two, one, 3, 3)

    def test_every_pair_of_small_trees_with_other_pieces(self):
        trees = [made(plain) for plain in all_trees(2, 2, (None, 0))]
        told = [pieces(tree, 2, 2) for tree in trees]
        for (one, some), (two, others) in itertools.product(zip(trees, told), zip(trees, told)):
            if some != others:
                self.refused(Unlike, led, one, two, 2, 2)


if __name__ == "__main__":
    unittest.main()
