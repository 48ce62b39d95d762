"""Sheets, plans and the least glass [2, 3, 21, 22, 23, the interface]."""

import itertools
import random
import time
import unittest

from glazebench.cuts import Tree, Whole, pieces
from glazebench.cuttexts import written
from glazebench.errors import GlassError, NoPlan, NoSheet, NoWant, TooMany
from glazebench.plans import least_glass, plan


class Touchy:
    """A thing that fails wherever it is compared, counted or written out."""

    def fail(self, *things):
        raise RuntimeError("touched")

    __eq__ = __lt__ = __le__ = __gt__ = __ge__ = fail
    __len__ = __iter__ = __getitem__ = __int__ = __index__ = __bool__ = __repr__ = fail
    __hash__ = None


NO_SIDES = [None, True, False, 0.5, 1.0, 3.0, float("nan"), 2j, "", "1", b"1", [], [1], (), (1,), {}, {1: 2}, set(),
            range(4), object(), int, len, Whole(), Touchy(), 0, -1, 13, 10 ** 5000, -10 ** 5000]
GOOD = (2, 3, True)
NO_WANTS = ([None, 3, "", "231", [], list(GOOD), (), (2, 3), (2, 3, True, True), (2, 3, 1), (2, 3, None), (True, 2, 3),
             (0, 3, True), (2, 13, True), (2, 3, Touchy()), Touchy()])
NO_SHEETS = (
    [None, True, 3, 0.5, "", "23", "2 3", b"23", {}, {2: 3}, set(), frozenset((2, 3)), range(2), object(), tuple,
     Whole(), Touchy(), [], [2, 3], (), (2,), (2, 3, 4), (2, 3, True), ((2, 3),), ((2, 3), (2, 3))]
    + [(thing, 3) for thing in NO_SIDES] + [(2, thing) for thing in NO_SIDES])

SIX_WANTS = [(3, 2, True), (4, 5, False), (2, 2, False), (1, 7, True), (6, 3, True), (3, 3, False)]
FOUR_SHEETS = [(7, 5), (12, 4), (6, 9), (5, 5)]

# Few and small wants, and small sheets: of these all trees are told one by one.
SMALL_ORDERS = (
    ([(1, 1, False)], [(1, 1)]), ([(1, 1, False)], [(3, 2), (2, 2), (2, 1), (4, 1)]),
    ([(2, 1, False)], [(1, 2), (1, 5)]), ([(2, 1, True)], [(1, 2), (2, 2)]),
    ([(1, 1, False), (1, 1, True)], [(1, 1), (2, 1)]),
    ([(1, 1, False), (1, 1, True)], [(3, 1), (2, 2)]), ([(2, 1, False), (1, 2, False)], [(2, 2), (3, 2)]),
    ([(2, 1, True), (1, 2, False)], [(2, 2), (3, 3)]), ([(2, 2, True), (3, 1, False)], [(3, 3), (2, 2), (1, 3)]),
    ([(2, 2, True), (3, 1, True)], [(2, 2), (1, 3)]), ([(2, 1, True)] * 3, [(2, 2), (3, 2)]),
    ([(2, 1, True)] * 3, [(2, 2), (1, 5)]), ([(3, 1, True), (1, 1, False), (2, 2, False)], [(3, 3), (2, 3), (4, 2)]),
    ([(1, 3, False), (2, 1, False), (1, 1, True)], [(3, 1), (2, 3)]), ([(1, 2, True)] * 4, [(3, 3), (2, 2), (4, 1)]),
    ([(1, 1, True), (2, 2, False), (1, 2, True), (2, 1, False)], [(3, 2), (2, 2), (3, 3)]))


def all_cuts(width, height):
    """The sizes of the pieces of all trees that fit, tree by tree."""
    yield [(width, height)]
    for at in range(1, width):
        for first, other in itertools.product(all_cuts(at, height), list(all_cuts(width - at, height))):
            yield first + other
    for at in range(1, height):
        for first, other in itertools.product(all_cuts(width, at), list(all_cuts(width, height - at))):
            yield first + other


def ways(want):
    return {want[:2], want[1::-1]} if want[2] else {want[:2]}


def can_mark(wants, numbers, sizes):
    """Whether pieces of these sizes can be marked with just these numbers, each once."""
    if not numbers:
        return True
    return any(can_mark(wants, numbers[1:], sizes[:place] + sizes[place + 1:])
               for place, size in enumerate(sizes) if size in ways(wants[numbers[0]]))


def numbers_of(bits):
    return [number for number in range(6) if bits & 2 ** number]


def served_tree_by_tree(wants, size):
    """Point 21: the sets that some tree serves on this size, all trees told one by one."""
    trees = list(all_cuts(*size))
    return {bits for bits in range(2 ** len(wants)) if any(can_mark(wants, numbers_of(bits), some) for some in trees)}


def served_by_size(wants):
    """Point 21 once more, for all sizes: for each the sets that some tree serves on it, by its cuts."""
    served = {}
    for width, height in itertools.product(range(1, 13), repeat=2):
        found = {0} | {2 ** number for number, want in enumerate(wants) if (width, height) in ways(want)}
        pairs = [((at, height), (width - at, height)) for at in range(1, width // 2 + 1)]
        pairs += [((width, at), (width, height - at)) for at in range(1, height // 2 + 1)]
        for first, other in pairs:
            found |= {one | two for one in served[first] for two in served[other] if not one & two}
        served[(width, height)] = found
    return served


def ways_to_part(numbers):
    """All ways to part a list, each a list of lists."""
    if not numbers:
        yield []
        return
    for parts in ways_to_part(numbers[1:]):
        yield [[numbers[0]]] + parts
        for place, part in enumerate(parts):
            yield parts[:place] + [[numbers[0]] + part] + parts[place + 1:]


def glass_due(wants, sheets, served):
    """Point 23 told once more: for each set the least sum over all ways to part it over sheets."""
    due = {}
    for bits in range(2 ** len(wants)):
        sums = []
        for parts in ways_to_part(numbers_of(bits)):
            areas = [[size[0] * size[1] for size in sheets if sum(2 ** number for number in part) in served[size]]
                     for part in parts]
            if all(areas):
                sums.append(sum(min(some) for some in areas))
        due[bits] = min(sums, default=None)
    return due


def any_wants(chance, many, longest):
    return [(chance.randint(1, longest), chance.randint(1, longest), chance.random() < 0.5) for place in range(many)]


def any_sheets(chance, many, longest):
    return [(chance.randint(1, longest), chance.randint(1, longest)) for place in range(many)]


def in_texts(told):
    return [(number, written(tree)) for number, tree in told]


class PlansCase(unittest.TestCase):
    def refused(self, kind, name, value, asked, *things):
        with self.assertRaises(GlassError) as caught:
            asked(*things)
        self.assertIs(type(caught.exception), kind)
        self.assertEqual(getattr(caught.exception, name), value)

    def check_share(self, wants, size, tree):
        """The marks of a tree that serves some wants on a sheet of this size."""
        self.assertIsInstance(tree, Tree)
        self.assertTrue(tree.fits(*size))
        self.assertLessEqual(tree.leaves(), 52)
        marks = []
        for (top, left, bottom, right), mark in pieces(tree, *size):
            if mark is not None:
                marks.append(mark)
                self.assertIn((right - left, bottom - top), ways(wants[mark]))
        self.assertTrue(marks)
        return marks

    def check_plan(self, wants, sheets):
        told = plan(wants, sheets)
        self.assertIs(type(told), list)
        all_marks = []
        glass = 0
        for share in told:
            self.assertIs(type(share), tuple)
            number, tree = share
            self.assertIs(type(number), int)
            self.assertIn(number, range(len(sheets)))
            all_marks.append(self.check_share(wants, sheets[number], tree))
            glass += sheets[number][0] * sheets[number][1]
        self.assertEqual(sorted(sum(all_marks, [])), list(range(len(wants))))
        leasts = [min(marks) for marks in all_marks]
        self.assertEqual(leasts, sorted(leasts))
        self.assertEqual(glass, least_glass(wants, sheets)[2 ** len(wants) - 1])

    def check_order(self, wants, sheets):
        """The plan where there is one, else the refusal."""
        alone = [least_glass([want], sheets)[1] for want in wants]
        if None in alone:
            self.assertIsNone(least_glass(wants, sheets)[2 ** len(wants) - 1])
            self.refused(NoPlan, "want", alone.index(None), plan, wants, sheets)
        else:
            self.check_plan(wants, sheets)


class TestLeastGlass(PlansCase):
    def test_one_want(self):
        self.assertEqual(least_glass([(2, 3, False)], [(2, 3)]), {0: 0, 1: 6})
        self.assertEqual(least_glass([(2, 3, False)], [(5, 5), (3, 4), (3, 6)]), {0: 0, 1: 12})
        self.assertEqual(least_glass([(2, 3, False)], [(3, 2)]), {0: 0, 1: None})
        self.assertEqual(least_glass([(2, 3, True)], [(3, 2)]), {0: 0, 1: 6})
        self.assertEqual(least_glass([(12, 12, True)], [(12, 12)]), {0: 0, 1: 144})
        self.assertEqual(least_glass([(12, 12, True)], [(11, 12), (12, 11)]), {0: 0, 1: None})

    def test_no_wants(self):
        for sheets in ([(1, 1)], [(12, 12)] * 4):
            self.assertEqual(least_glass([], sheets), {0: 0})

    def test_each_sheet_as_often_as_one_likes(self):
        self.assertEqual(least_glass([(2, 2, False)] * 3, [(2, 2)])[7], 12)
        self.assertEqual(least_glass([(2, 2, False)] * 6, [(2, 2)])[63], 24)
        self.assertEqual(least_glass([(2, 2, False)] * 6, [(3, 2)])[63], 36)

    def test_one_sheet_for_two_or_two_for_two(self):
        wants = [(2, 2, False), (2, 2, False)]
        self.assertEqual(least_glass(wants, [(2, 2), (4, 3)]), {0: 0, 1: 4, 2: 4, 3: 8})
        self.assertEqual(least_glass(wants, [(3, 3), (4, 2)]), {0: 0, 1: 8, 2: 8, 3: 8})
        self.assertEqual(least_glass(wants, [(3, 2), (5, 2)]), {0: 0, 1: 6, 2: 6, 3: 10})
        self.assertEqual(least_glass(wants, [(3, 2), (5, 3)]), {0: 0, 1: 6, 2: 6, 3: 12})

    def test_the_least_want_is_not_always_with_the_most_others(self):
        # The three small ones fill one sheet; with the great one, none of them finds room.
        wants = [(1, 3, False), (3, 3, False), (1, 3, False), (1, 3, False)]
        self.assertEqual(least_glass(wants, [(3, 3)])[15], 18)
        self.check_plan(wants, [(3, 3)])
        # Two and two, as no three lie on one sheet.
        wants = [(1, 2, False), (3, 2, False), (3, 2, False), (1, 2, False)]
        self.assertEqual(least_glass(wants, [(4, 2)])[15], 16)
        self.check_plan(wants, [(4, 2)])

    def test_a_wheel_of_wants_takes_two_sheets(self):
        self.assertEqual(least_glass([(3, 2, True)] * 4, [(5, 5)])[15], 50)
        self.assertEqual(least_glass([(3, 2, True)] * 3, [(5, 5)])[7], 25)

    def test_none_where_there_is_no_plan(self):
        told = least_glass([(1, 1, True), (5, 1, False), (2, 2, False)], [(1, 6), (3, 2)])
        self.assertEqual(told, {0: 0, 1: 6, 2: None, 3: None, 4: 6, 5: 6, 6: None, 7: None})
        self.assertEqual(least_glass([(3, 1, False)] * 2, [(2, 12)]), {0: 0, 1: None, 2: None, 3: None})

    def test_the_keys_are_just_all_sets(self):
        for many in range(7):
            told = least_glass(SIX_WANTS[:many], FOUR_SHEETS)
            self.assertIs(type(told), dict)
            self.assertEqual(sorted(told), list(range(2 ** many)))
            self.assertEqual({type(key) for key in told}, {int})
            self.assertIs(type(told[0]), int)
            self.assertEqual(told[0], 0)
            self.assertLessEqual({type(glass) for glass in told.values()}, {int, type(None)})

    def test_all_trees_told_one_by_one(self):
        for wants, sheets in SMALL_ORDERS:
            served = {size: served_tree_by_tree(wants, size) for size in sheets}
            self.assertEqual(least_glass(wants, sheets), glass_due(wants, sheets, served), (wants, sheets))

    def test_drawn_orders(self):
        chance = random.Random(23)
        for trial in range(40):
            wants = any_wants(chance, chance.randint(1, 4), chance.choice((3, 5, 8)))
            served = served_by_size(wants)
            for more in range(4):
                sheets = any_sheets(chance, chance.randint(1, 4), 12)
                self.assertEqual(least_glass(wants, sheets), glass_due(wants, sheets, served), (wants, sheets))

    def test_six_wants_and_four_sheets(self):
        for wants in (SIX_WANTS, [(2, 3, True)] * 3 + [(4, 1, False), (1, 1, True), (5, 2, True)]):
            begin = time.process_time()
            told = least_glass(wants, FOUR_SHEETS)
            self.assertLess(time.process_time() - begin, 5)
            self.assertEqual(told, glass_due(wants, FOUR_SHEETS, served_by_size(wants)))

    def test_sheets_alike_and_in_any_order(self):
        due = least_glass(SIX_WANTS, FOUR_SHEETS)
        for sheets in itertools.permutations(FOUR_SHEETS):
            self.assertEqual(least_glass(SIX_WANTS, list(sheets)), due)
        self.assertEqual(least_glass(SIX_WANTS[:4], [(7, 5)] * 4), least_glass(SIX_WANTS[:4], [(7, 5)]))


class TestPlan(PlansCase):
    def test_no_wants(self):
        for sheets in ([(1, 1)], [(12, 12)] * 4):
            self.assertEqual(plan([], sheets), [])

    def test_one_want(self):
        self.assertEqual(in_texts(plan([(2, 3, False)], [(5, 5), (2, 3)])), [(1, "#0")])
        self.assertEqual(in_texts(plan([(2, 3, True)], [(3, 2)])), [(0, "#0")])
        self.check_plan([(2, 3, False)], [(5, 5)])

    def test_what_must_come(self):
        self.assertEqual(in_texts(plan([(2, 2, False), (4, 2, True)], [(4, 4), (6, 2)])), [(1, "|2 #0 #1")])
        self.assertEqual(in_texts(plan([(3, 3, False), (2, 2, False), (3, 3, False)], [(2, 2), (3, 3)])),
                         [(1, "#0"), (0, "#1"), (1, "#2")])
        # Wants 0 and 2 fill one sheet, 1 and 3 another one.
        told = plan([(1, 2, False), (2, 4, False), (3, 2, False), (2, 4, False)], [(4, 4), (4, 2)])
        self.assertEqual(in_texts(told), [(1, "|1 #0 #2"), (0, "|2 #1 #3")])

    def test_small_orders(self):
        for wants, sheets in SMALL_ORDERS:
            self.check_order(wants, sheets)

    def test_drawn_orders(self):
        chance = random.Random(230)
        for trial in range(60):
            wants = any_wants(chance, chance.randint(0, 5), chance.choice((2, 4, 7, 12)))
            self.check_order(wants, any_sheets(chance, chance.randint(1, 4), chance.choice((6, 12))))
        for trial in range(40):
            wants = any_wants(chance, chance.randint(1, 5), 5)
            self.check_order(wants, any_sheets(chance, chance.randint(0, 3), 9) + [(5, chance.randint(5, 12))])

    def test_the_marks_are_in_order_whatever_the_sheets_are(self):
        # The great ones, on sheets of their own, stand between the others.
        wants = [(1, 1, False), (6, 6, False)] * 3
        told = plan(wants, [(6, 6), (1, 3)])
        self.assertEqual([number for number, tree in told], [1, 0, 0, 0])
        self.check_plan(wants, [(6, 6), (1, 3)])

    def test_six_wants_and_four_sheets(self):
        begin = time.process_time()
        self.check_plan(SIX_WANTS, FOUR_SHEETS)
        self.check_plan([(1, 1, True)] * 6, [(12, 12), (11, 12), (12, 11), (11, 11)])
        self.check_plan([(1, 1, True)] * 6, [(12, 1)])
        self.assertLess(time.process_time() - begin, 10)

    def test_the_same_again_behind_a_change_of_what_was_told(self):
        due = in_texts(plan(SIX_WANTS, FOUR_SHEETS))
        told = plan(list(SIX_WANTS), list(FOUR_SHEETS))
        self.assertEqual(in_texts(told), due)
        told.reverse()
        told.append(None)
        self.assertEqual(in_texts(plan(SIX_WANTS, FOUR_SHEETS)), due)
        told.clear()
        least_glass(SIX_WANTS, FOUR_SHEETS).clear()
        self.assertEqual(in_texts(plan(SIX_WANTS, FOUR_SHEETS)), due)

    def test_arguments_by_name(self):
        self.assertEqual(least_glass(wants=[(1, 1, False)], sheets=[(1, 1)]), {0: 0, 1: 1})
        self.assertEqual(in_texts(plan(wants=[(1, 1, False)], sheets=[(1, 1)])), [(0, "#0")])


class TestRefused(PlansCase):
    ASKED = (least_glass, plan)

    def test_too_many_wants(self):
        for asked in self.ASKED:
            for many in (7, 8, 50):
                for sheets in ([(5, 5)], [], [(5, 5)] * 5, [None], [Touchy()]):
                    self.refused(TooMany, "many", many, asked, [GOOD] * many, sheets)
                    self.refused(TooMany, "many", many, asked, [Touchy()] * many, sheets)
            asked([GOOD] * 6, [(5, 5)])

    def test_no_want(self):
        for asked in self.ASKED:
            for thing in NO_WANTS:
                self.refused(NoWant, "place", 0, asked, [thing], [(5, 5)])
                self.refused(NoWant, "place", 2, asked, [GOOD, GOOD, thing, GOOD, thing], [])
                self.refused(NoWant, "place", 5, asked, [GOOD] * 5 + [thing], [(5, 5)] * 7)
                self.refused(NoWant, "place", 1, asked, [(12, 12, False), thing], [None])

    def test_no_sheets_or_too_many(self):
        for asked in self.ASKED:
            for wants in ([], [GOOD], [GOOD] * 6, [(12, 12, False)]):
                self.refused(TooMany, "many", 0, asked, wants, [])
                for many in (5, 6, 40):
                    self.refused(TooMany, "many", many, asked, wants, [(5, 5)] * many)
                    self.refused(TooMany, "many", many, asked, wants, [Touchy()] * many)
            asked([GOOD], [(5, 5)] * 4)
            asked([GOOD], [(5, 5)])

    def test_no_sheet_of_anything(self):
        for asked in self.ASKED:
            for thing in NO_SHEETS:
                self.refused(NoSheet, "place", 0, asked, [GOOD], [thing])
                self.refused(NoSheet, "place", 1, asked, [], [(5, 5), thing, (5, 5), thing])
                # A want that no sheet would serve comes behind it.
                self.refused(NoSheet, "place", 3, asked, [(12, 12, False)], [(5, 5)] * 3 + [thing])

    def test_sheets_at_the_edges(self):
        for sheet in ((1, 1), (12, 12), (1, 12), (12, 1)):
            self.assertEqual(least_glass([(1, 1, False)], [sheet])[1], sheet[0] * sheet[1])
            self.check_plan([(1, 1, False)], [sheet])

    def test_no_plan(self):
        self.refused(NoPlan, "want", 0, plan, [(2, 3, False)], [(3, 2)])
        self.refused(NoPlan, "want", 1, plan, [(2, 2, False), (3, 3, True), (4, 4, True)], [(2, 8), (8, 2)])
        self.refused(NoPlan, "want", 2, plan, [(2, 8, True), (3, 1, True), (3, 3, True)], [(2, 8)])
        self.refused(NoPlan, "want", 5, plan, [(1, 1, True)] * 5 + [(1, 2, False)], [(12, 1)])
        self.refused(NoPlan, "want", 0, plan, [(12, 12, True)] * 6, [(12, 11), (11, 12)])


class TestOnesOwn(PlansCase):
    def test_nothing_that_is_handed_in_is_changed(self):
        wants, sheets = list(SIX_WANTS), list(FOUR_SHEETS)
        least_glass(wants, sheets)
        plan(wants, sheets)
        self.assertEqual((wants, sheets), (SIX_WANTS, FOUR_SHEETS))
        bad = [(12, 12, False), (1, 1, True)]
        self.refused(NoPlan, "want", 0, plan, bad, sheets)
        self.assertEqual((bad, sheets), ([(12, 12, False), (1, 1, True)], FOUR_SHEETS))

    def test_the_dict_told_is_the_askers_own(self):
        wants, sheets = [(2, 2, False)], [(3, 2)]
        told = least_glass(wants, sheets)
        wants.append((1, 1, False))
        sheets[0] = (9, 9)
        self.assertEqual(told, {0: 0, 1: 6})
        told[0] = 7
        told[5] = 8
        self.assertEqual(least_glass([(2, 2, False)], [(3, 2)]), {0: 0, 1: 6})
        self.assertEqual(least_glass([], [(3, 2)]), {0: 0})

    def test_the_empty_list_is_a_new_one_too(self):
        plan([], [(3, 2)]).append(1)
        self.assertEqual(plan([], [(3, 2)]), [])

    def test_trees_have_no_parts_in_common(self):
        def parts(some):
            return [some] if isinstance(some, Whole) else [some] + parts(some.first) + parts(some.other)

        wants = [(2, 1, True)] * 6
        told = plan(wants, [(3, 2)]) + plan(wants, [(3, 2)])
        known = [id(part) for number, tree in told for part in parts(tree)]
        self.assertEqual(len(known), len(set(known)))


if __name__ == "__main__":
    unittest.main()
