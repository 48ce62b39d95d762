"""The tree of a panel, rooms, and what Stuck bears [2, 3, 13, the interface]."""

import itertools
import random
import unittest

from glazebench.blocks import is_block, panes_in, through
from glazebench.cuts import Level, Upright, Whole, panel_of, pieces
from glazebench.drawings import drawing, read_drawing
from glazebench.errors import GlassError, Stuck
from glazebench.leads import leads, turn
from glazebench.panels import Panel, inside
from glazebench.rooms import tree_of

# Wheels of five panes about their middle, of both ways about.
WHEEL = "aab/cdb/cee"
MIRRORED = "abb/adc/eec"
WIDE_WHEEL = "aaab/cddb/ceee"
WHEELS = (WHEEL, MIRRORED, WIDE_WHEEL, "abbb/addc/eeec", "aab/cdb/cdb/cee", "abb/adc/adc/eec")

STUCK_PANELS = (
    # A wheel behind cuts: upright ones, level ones, both, and ahead of panes that can be cut.
    "xaab/xcdb/xcee", "aabx/cdbx/ceex", "xxx/aab/cdb/cee", "aab/cdb/cee/xxx", "xyaab/xycdb/xzcee",
    "xxxx/yaab/ycdb/ycee", "aabx/cdby/ceez/wwww", "xxxxx/yaabz/ycdbz/yceez/wwwww", "pqrst/yabbz/yadcz/yeecz/uvwxX",
    # Two wheels: beside one another, one below the other, with a cut between, of unlike ways about.
    "aabAAB/cdbCDB/ceeCEE", "aab/cdb/cee/AAB/CDB/CEE", "aabxABB/cdbxADC/ceexEEC", "aab/cdb/cee/xyz/ABB/ADC/EEC",
    # A wheel with a wheel, or with panes that can be cut, as its middle or as its arm.
    "aaaab/cAABb/cCDBb/cCEEb/ceeee", "aaaab/cABBb/cADCb/cEECb/ceeee", "aaab/cdfb/cghb/ceee", "aabx/cdby/ceey",
    "aaaaAAB/aaaaCDB/aaaaCEE/cddddbb/ceeeebb", "aab/aab/cdb/cfb/cee",
    # A room that is no wheel of five panes.
    "aabb/cdde/cfge/hhgi", "aaab/ccdb/efdb/gfhh", "abbcc/dbbef/dghei/jjkki", "aabb/ccbb/ccde/fgde/fgdh/fiih",
    "abccd/ebfgd/hiigj/kiilm", "aaabc/aaabc/ddebf/ddggh/iiijh", "aaab/cccd/eefd/eegg/higg/hjgg",
)


def squares(pane):
    return {(row, column) for row in range(pane[0], pane[2]) for column in range(pane[1], pane[3])}


def all_panels(width, height):
    """All lists of panes of this size, each pane put where the first bare square is."""
    whole = sorted(squares((0, 0, height, width)))

    def filled(panes, taken):
        bare = [square for square in whole if square not in taken]
        if not bare:
            return [panes]
        found = []
        row, column = bare[0]
        for bottom, right in itertools.product(range(row + 1, height + 1), range(column + 1, width + 1)):
            pane = (row, column, bottom, right)
            if not squares(pane) & taken:
                found += filled(panes + [pane], taken | squares(pane))
        return found

    return filled([], frozenset())


def any_panel(chance, width, height, longest):
    """Any one panel of fifty-two panes at most, with panes of sides up to the longest; None where they are more."""
    panes, taken = [], set()
    for row, column in itertools.product(range(height), range(width)):
        if (row, column) in taken:
            continue
        free = [(row, column, row + high, column + wide)
                for high, wide in itertools.product(range(1, longest + 1), repeat=2)
                if row + high <= height and column + wide <= width]
        pane = chance.choice([pane for pane in free if not squares(pane) & taken])
        panes.append(pane)
        taken |= squares(pane)
    return Panel(width, height, panes) if len(panes) <= 52 else None


def some_panels(seed, many, width, height, longest):
    chance = random.Random(seed)
    found = []
    while len(found) < many:
        panel = any_panel(chance, width, height, longest)
        if panel is not None:
            found.append(panel)
    return found


def plain_of(tree):
    if type(tree) is Whole:
        return ("whole", tree.mark)
    return ({Upright: "upright", Level: "level"}[type(tree)], tree.at, plain_of(tree.first), plain_of(tree.other))


def parts(tree):
    if isinstance(tree, Whole):
        return [tree]
    return [tree] + parts(tree.first) + parts(tree.other)


def plain_due(panes):
    """Point 13 told once more: the plain tree of a block's panes; None where it has none."""
    if len(panes) == 1:
        return ("whole", None)
    # By columns first, then by rows: the least line that has each pane wholly ahead of it or wholly behind it.
    for word, low, high in (("upright", 1, 3), ("level", 0, 2)):
        begin = min(pane[low] for pane in panes)
        for line in range(begin + 1, max(pane[high] for pane in panes)):
            ahead = [pane for pane in panes if pane[high] <= line]
            behind = [pane for pane in panes if pane[low] >= line]
            if len(ahead) + len(behind) == len(panes):
                first, other = plain_due(ahead), plain_due(behind)
                return None if first is None or other is None else (word, line - begin, first, other)
    return None


def points(lead):
    word, line, begin, end = lead
    if word == "level":
        return [(line, column) for column in range(begin, end + 1)]
    return [(row, line) for row in range(begin, end + 1)]


class RoomsCase(unittest.TestCase):
    def stuck(self, panel):
        with self.assertRaises(GlassError) as caught:
            tree_of(panel)
        self.assertIs(type(caught.exception), Stuck)
        return caught.exception

    def check_stuck(self, panel):
        """All of what Stuck is to bear, told once more by the panes and their squares."""
        refusal = self.stuck(panel)
        room = refusal.room
        self.assertIs(type(room), tuple)
        self.assertEqual([type(part) for part in room], [int] * 4)
        self.assertTrue(inside(room, (0, 0, panel.height, panel.width)))
        panes = [pane for pane in panel.panes() if squares(pane) & squares(room)]
        self.assertGreater(len(panes), 1)
        self.assertTrue(all(squares(pane) <= squares(room) for pane in panes), room)
        self.check_breaks(refusal, panes)
        self.check_leads(panel, refusal)
        return refusal

    def check_breaks(self, refusal, panes):
        self.assertIs(type(refusal.breaks), list)
        top, left, bottom, right = refusal.room
        lines = [("upright", line) for line in range(left + 1, right)]
        lines += [("level", line) for line in range(top + 1, bottom)]
        self.assertEqual([(word, line) for word, line, pane in refusal.breaks], lines)
        for told in refusal.breaks:
            self.assertIs(type(told), tuple)
            word, line, pane = told
            self.assertIn(pane, panes)
            on_sides = {(column if word == "upright" else row) >= line for row, column in squares(pane)}
            self.assertEqual(on_sides, {True, False}, told)

    def check_leads(self, panel, refusal):
        four = refusal.leads
        self.assertIs(type(four), list)
        self.assertEqual(len(four), 4)
        told = leads(panel, refusal.room)
        for place, lead in enumerate(four):
            self.assertIn(lead, told)
            other = four[(place + 1) % 4]
            self.assertNotEqual(lead[0], other[0])
            ends = {points(lead)[0], points(lead)[-1]}
            self.assertTrue(ends & set(points(other)[1:-1]), four)
        self.assertIs(turn(four), True)

    def check_panel(self, panel):
        """Either the tree of point 13, or Stuck with all that it bears; tells whether it has a tree."""
        due = plain_due(panel.panes())
        if due is None:
            self.check_stuck(panel)
        else:
            told = tree_of(panel)
            self.assertEqual(plain_of(told), due, drawing(panel))
            self.assertEqual(pieces(told, panel.width, panel.height), [(pane, None) for pane in panel.panes()])
        return due is not None


class TestTreeOf(RoomsCase):
    def check_tree(self, drawn, due):
        self.assertEqual(plain_of(tree_of(read_drawing(drawn))), plain_of(due), drawn)

    def test_one_pane(self):
        self.check_tree("a", Whole())
        self.check_tree("aaa/aaa", Whole())
        self.check_tree("a/a/a", Whole())
        for width, height in itertools.product(range(1, 13), repeat=2):
            tree = tree_of(panel=Panel(width, height, [(0, 0, height, width)]))
            self.assertIs(type(tree), Whole)
            self.assertIsNone(tree.mark)

    def test_one_line(self):
        self.check_tree("ab", Upright(1, Whole(), Whole()))
        self.check_tree("a/b", Level(1, Whole(), Whole()))
        self.check_tree("aaab/aaab", Upright(3, Whole(), Whole()))
        self.check_tree("aa/aa/aa/bb", Level(3, Whole(), Whole()))

    def test_the_least_upright_line_of_several(self):
        self.check_tree("abc", Upright(1, Whole(), Upright(1, Whole(), Whole())))
        self.check_tree("aabbbc", Upright(2, Whole(), Upright(3, Whole(), Whole())))
        self.check_tree("abbcccd", Upright(1, Whole(), Upright(2, Whole(), Upright(3, Whole(), Whole()))))

    def test_the_least_level_line_of_several(self):
        self.check_tree("a/b/c", Level(1, Whole(), Level(1, Whole(), Whole())))
        self.check_tree("a/a/b/b/b/c", Level(2, Whole(), Level(3, Whole(), Whole())))

    def test_an_upright_line_ahead_of_a_level_one(self):
        part = Level(1, Whole(), Whole())
        self.check_tree("ab/cd", Upright(1, part, part))
        self.check_tree("abc/def", Upright(1, part, Upright(1, part, part)))
        # Also where the level one is the lesser.
        self.check_tree("aab/ccd/ccd", Upright(2, part, part))
        self.check_tree("aaab/cccd/eeef", Upright(3, *[Level(1, Whole(), part)] * 2))

    def test_a_level_line_where_no_upright_one_goes_through(self):
        part = Upright(1, Whole(), Whole())
        self.check_tree("aa/bc", Level(1, Whole(), part))
        self.check_tree("ab/cc", Level(1, part, Whole()))
        self.check_tree("ab/ab/cc/de", Level(2, part, Level(1, Whole(), part)))
        self.check_tree("aab/cdd", Level(1, Upright(2, Whole(), Whole()), Upright(1, Whole(), Whole())))

    def test_an_upright_line_of_a_part_that_is_none_of_the_whole(self):
        # The lower part has the upright lines 1 and 2, the panel has neither.
        due = Level(1, Whole(), Upright(1, Whole(), Upright(1, Whole(), Whole())))
        self.check_tree("aaa/bcd", due)
        self.check_tree("aab/cdd/eee", Level(1, Upright(2, Whole(), Whole()),
                                             Level(1, Upright(1, Whole(), Whole()), Whole())))

    def test_the_panels_of_the_document(self):
        self.check_tree("aab/ccb", Upright(2, Level(1, Whole(), Whole()), Whole()))
        tree = Upright(2, Whole(), Level(1, Whole(), Whole()))
        self.assertEqual(plain_of(tree_of(panel_of(tree, 3, 2))), plain_of(tree))

    def test_a_cut_is_told_from_its_own_pieces_edge(self):
        due = Upright(3, Whole(), Level(2, Whole(), Upright(4, Whole(), Level(1, Whole(), Whole()))))
        panes = [(0, 0, 5, 3), (0, 3, 2, 9), (2, 3, 5, 7), (2, 7, 3, 9), (3, 7, 5, 9)]
        self.assertEqual(plain_of(tree_of(Panel(9, 5, panes))), plain_of(due))

    def test_fifty_two_panes(self):
        panes = [(row, column, row + 1, column + 1) for row in range(4) for column in range(12)]
        panes += [(4, left, 5, left + 3) for left in range(0, 12, 3)]
        panel = Panel(12, 5, panes)
        tree = tree_of(panel)
        self.assertEqual(tree.leaves(), 52)
        self.assertEqual(plain_of(tree), plain_due(panel.panes()))
        self.assertEqual(pieces(tree, 12, 5), [(pane, None) for pane in sorted(panes)])
        turned = tree_of(panel.turned())
        self.assertEqual(pieces(turned, 5, 12), [(pane, None) for pane in panel.turned().panes()])

    def test_a_tree_as_deep_as_it_can_be(self):
        # A strip is cut off above, then one on the left, and so on: twenty-two cuts, each within the last one.
        panes = [(row, row, row + 1, 12) for row in range(11)] + [(row + 1, row, 12, row + 1) for row in range(11)]
        tree = tree_of(Panel(12, 12, panes + [(11, 11, 12, 12)]))
        self.assertEqual((tree.leaves(), tree.depth()), (23, 22))
        self.assertEqual(pieces(tree, 12, 12), [(pane, None) for pane in sorted(panes + [(11, 11, 12, 12)])])

    def test_every_small_panel(self):
        seen = {True: 0, False: 0}
        for width, height in ((1, 1), (4, 1), (1, 4), (2, 2), (3, 2), (2, 3), (3, 3), (4, 3), (3, 4)):
            for panes in all_panels(width, height):
                seen[self.check_panel(Panel(width, height, panes))] += 1
        self.assertGreater(seen[True], 5000)
        self.assertGreater(seen[False], 50)

    def test_some_greater_panels(self):
        seen = {True: 0, False: 0}
        for seed, size in enumerate(((4, 4), (5, 4), (4, 6), (6, 6), (8, 8), (12, 2), (2, 12), (12, 3))):
            for panel in some_panels(seed, 60, size[0], size[1], 3):
                seen[self.check_panel(panel)] += 1
        self.assertGreater(seen[True], 50)
        self.assertGreater(seen[False], 50)

    def test_what_is_told_is_new_in_all_its_parts(self):
        panel = read_drawing("abc/def/ghi")
        told = parts(tree_of(panel)) + parts(tree_of(panel))
        self.assertEqual(len({id(part) for part in told}), 34)

    def test_the_same_again_behind_a_change_of_what_was_told(self):
        panel = read_drawing("aab/ccb")
        kept = plain_of(tree_of(panel))
        told = tree_of(panel)
        told.at, told.first = 1, Whole(7)
        self.assertEqual(plain_of(tree_of(panel)), kept)
        self.assertEqual(panel.panes(), read_drawing("aab/ccb").panes())


class TestStuck(RoomsCase):
    def test_wheels_of_both_ways_about(self):
        for drawn in WHEELS:
            panel = read_drawing(drawn)
            refusal = self.check_stuck(panel)
            self.assertEqual(refusal.room, (0, 0, panel.height, panel.width))
            self.assertEqual(sorted(refusal.leads), sorted(leads(panel, refusal.room)))

    def test_the_breaks_of_a_wheel(self):
        # Each line of this wheel breaks just one pane.
        refusal = self.check_stuck(read_drawing(WHEEL))
        self.assertEqual(refusal.breaks, [("upright", 1, (0, 0, 1, 2)), ("upright", 2, (2, 1, 3, 3)),
                                          ("level", 1, (0, 2, 2, 3)), ("level", 2, (1, 0, 3, 1))])
        refusal = self.check_stuck(read_drawing(MIRRORED))
        self.assertEqual(refusal.breaks, [("upright", 1, (2, 0, 3, 2)), ("upright", 2, (0, 1, 1, 3)),
                                          ("level", 1, (0, 0, 2, 1)), ("level", 2, (1, 2, 3, 3))])

    def test_the_greatest_wheels(self):
        for panes in ([(0, 0, 1, 11), (0, 11, 11, 12), (11, 1, 12, 12), (1, 0, 12, 1), (1, 1, 11, 11)],
                      [(0, 0, 5, 6), (0, 6, 7, 12), (7, 5, 12, 12), (5, 0, 12, 5), (5, 5, 7, 6)]):
            panel = Panel(12, 12, panes)
            self.assertEqual(self.check_stuck(panel).room, (0, 0, 12, 12))
            self.assertEqual(len(self.stuck(panel).breaks), 22)

    def test_wheels_amid_other_panes(self):
        for drawn in STUCK_PANELS:
            panel = read_drawing(drawn)
            self.check_stuck(panel)
            self.check_stuck(panel.turned())

    def test_a_wheel_amid_other_panes_is_the_one_room(self):
        # No other block of two or more panes is without a through line.
        for drawn, room in (("xaab/xcdb/xcee", (0, 1, 3, 4)), ("xxx/aab/cdb/cee", (1, 0, 4, 3)),
                            ("xxxxx/yaabz/ycdbz/yceez/wwwww", (1, 1, 4, 4))):
            self.assertEqual(self.check_stuck(read_drawing(drawn)).room, room)

    def test_a_wheel_at_each_place_of_the_greatest_panel(self):
        for top, left in itertools.product(range(0, 10, 3), (0, 1, 4, 8, 9)):
            room = (top, left, top + 3, left + 3)
            wheel = [(one + top, two + left, three + top, four + left)
                     for one, two, three, four in read_drawing(WHEEL).panes()]
            around = [(0, 0, top, 12), (top + 3, 0, 12, 12), (top, 0, top + 3, left), (top, left + 3, top + 3, 12)]
            panes = wheel + [pane for pane in around if pane[0] < pane[2] and pane[1] < pane[3]]
            self.assertEqual(self.check_stuck(Panel(12, 12, panes)).room, room)

    def test_fifty_two_panes_with_a_room(self):
        panes = [(row, column, row + 1, column + 1) for row in range(9) for column in range(5)]
        panes += [(0, 5, 1, 7), (0, 7, 2, 8), (1, 5, 3, 6), (1, 6, 2, 7), (2, 6, 3, 8), (3, 5, 9, 8), (0, 8, 9, 12)]
        panel = Panel(12, 9, panes)
        self.assertEqual(len(panel.panes()), 52)
        self.assertEqual(self.check_stuck(panel).room, (0, 5, 3, 8))

    def test_some_of_the_greatest_panels(self):
        for panel in some_panels(7, 12, 12, 12, 4) + some_panels(8, 12, 12, 12, 5) + some_panels(9, 12, 7, 9, 2):
            self.check_panel(panel)

    def test_every_room_has_four_leads_that_turn(self):
        # The promise of point 13, held against blocks that tree_of itself never tells.
        seen = 0
        ends = list(itertools.combinations(range(9), 2))
        for panel in some_panels(3, 40, 8, 8, 3):
            for (top, bottom), (left, right) in itertools.product(ends, repeat=2):
                room = (top, left, bottom, right)
                if is_block(panel, room) and len(panes_in(panel, room)) > 1 and through(panel, room) == ([], []):
                    panes = [(pane[0] - top, pane[1] - left, pane[2] - top, pane[3] - left)
                             for pane in panes_in(panel, room)]
                    refusal = self.check_stuck(Panel(right - left, bottom - top, panes))
                    self.assertEqual(refusal.room, (0, 0, bottom - top, right - left))
                    self.check_stuck(panel)
                    seen += 1
        self.assertGreater(seen, 20)


class TestTheAskersOwn(RoomsCase):
    def told(self, refusal):
        return (refusal.room, list(refusal.breaks), list(refusal.leads))

    def test_the_same_when_it_is_asked_again(self):
        for drawn in WHEELS + STUCK_PANELS:
            panel = read_drawing(drawn)
            kept = self.told(self.stuck(panel))
            self.assertEqual(self.told(self.stuck(panel)), kept)
            self.assertEqual(self.told(self.stuck(read_drawing(drawn))), kept)

    def test_the_same_behind_a_change_of_the_lists_that_the_refusal_bears(self):
        for drawn in WHEELS + STUCK_PANELS:
            panel = read_drawing(drawn)
            panes = panel.panes()
            refusal = self.stuck(panel)
            kept = self.told(refusal)
            again = self.stuck(panel)
            self.assertIsNot(again.breaks, refusal.breaks)
            self.assertIsNot(again.leads, refusal.leads)
            refusal.breaks.clear()
            refusal.leads.reverse()
            refusal.leads.append(None)
            self.assertEqual(self.told(again), kept)
            self.assertEqual(self.told(self.check_stuck(panel)), kept)
            self.assertEqual(panel.panes(), panes)


if __name__ == "__main__":
    unittest.main()
