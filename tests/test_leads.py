"""Leads of a block, ends on the inside, four leads that turn [2, 11, 12, the interface]."""

import itertools
import unittest

from glazebench.blocks import is_block, panes_in, through
from glazebench.drawings import read_drawing
from glazebench.leads import leads, lies_on, turn
from glazebench.panels import Panel

# A wheel of five panes about its middle, four columns wide and three rows high, and its leads as they turn.
WHEEL = "aaab/cddb/ceee"
WHEEL_TURN = [("level", 1, 0, 3), ("upright", 3, 0, 2), ("level", 2, 1, 4), ("upright", 1, 1, 3)]

# The same wheel in a mirror: it turns the other way.
MIRRORED = "abbb/addc/eeec"
MIRRORED_TURN = [("level", 1, 1, 4), ("upright", 1, 0, 2), ("level", 2, 0, 3), ("upright", 3, 1, 3)]


def squares(pane):
    return {(row, column) for row in range(pane[0], pane[2]) for column in range(pane[1], pane[3])}


def all_panels(width, height):
    """All lists of panes of this size, each pane put where the first bare square is."""
    whole = sorted(squares((0, 0, height, width)))

    def filled(panes, taken):
        bare = [square for square in whole if square not in taken]
        if not bare:
            return [panes]
        found = []
        row, column = bare[0]
        for bottom, right in itertools.product(range(row + 1, height + 1), range(column + 1, width + 1)):
            pane = (row, column, bottom, right)
            if not squares(pane) & taken:
                found += filled(panes + [pane], taken | squares(pane))
        return found

    return filled([], frozenset())


def level_due(panel, block, line, left, right):
    """Point 11 told once more: whether this run is a level lead."""
    def parted(column):
        within = block[1] <= column < block[3]
        return within and panel.pane_at(line - 1, column) != panel.pane_at(line, column)

    longer = parted(left - 1) or parted(right)
    return all(parted(column) for column in range(left, right)) and not longer


def upright_due(panel, block, levels, line, top, bottom):
    """Whether this run is an upright lead, of a block with these level leads."""
    def parted(row):
        within = block[0] <= row < block[2]
        return within and panel.pane_at(row, line - 1) != panel.pane_at(row, line)

    stops = [row for row, left, right in levels if left < line and line < right]
    longer_up = parted(top - 1) and top not in stops
    longer_down = parted(bottom) and bottom not in stops
    if longer_up or longer_down or any(row in stops for row in range(top + 1, bottom)):
        return False
    return all(parted(row) for row in range(top, bottom))


def leads_due(panel, block):
    top, left, bottom, right = block
    columns = list(itertools.combinations(range(left, right + 1), 2))
    rows = list(itertools.combinations(range(top, bottom + 1), 2))
    levels = [(line,) + ends for line in range(top + 1, bottom) for ends in columns
              if level_due(panel, block, line, *ends)]
    uprights = [(line,) + ends for line in range(left + 1, right) for ends in rows
                if upright_due(panel, block, levels, line, *ends)]
    return [("level",) + lead for lead in levels] + [("upright",) + lead for lead in uprights]


def points(lead):
    word, line, begin, end = lead
    if word == "level":
        return [(line, column) for column in range(begin, end + 1)]
    return [(row, line) for row in range(begin, end + 1)]


def on_inside(lead, other):
    """Point 12 told once more, point by point."""
    ends = {points(lead)[0], points(lead)[-1]}
    return lead[0] != other[0] and bool(ends & set(points(other)[1:-1]))


def turn_due(some):
    return len(some) == 4 and all(on_inside(some[k], some[(k + 1) % 4]) for k in range(4))


def all_blocks(panel):
    rows = itertools.combinations(range(panel.height + 1), 2)
    columns = list(itertools.combinations(range(panel.width + 1), 2))
    rectangles = [(top, left, bottom, right) for top, bottom in rows for left, right in columns]
    return [block for block in rectangles if is_block(panel, block)]


class LeadsCase(unittest.TestCase):
    def check_leads(self, drawn, due, block=None):
        panel = read_drawing(drawn)
        block = (0, 0, panel.height, panel.width) if block is None else block
        self.assertEqual(sorted(leads(panel, block)), sorted(due), drawn)


class TestLeads(LeadsCase):
    def test_one_pane_has_none(self):
        self.check_leads("a", [])
        self.check_leads("aaa/aaa", [])
        self.check_leads("/".join(["a" * 12] * 12), [])
        panel = read_drawing(WHEEL)
        for pane in panel.panes():
            self.assertEqual(leads(panel, pane), [])

    def test_two_panes(self):
        self.check_leads("ab", [("upright", 1, 0, 1)])
        self.check_leads("a/b", [("level", 1, 0, 1)])
        self.check_leads("aab/aab", [("upright", 2, 0, 2)])
        self.check_leads("aa/bb/bb", [("level", 1, 0, 2)])

    def test_an_upright_lead_ends_where_a_level_one_goes_on_to_both_sides(self):
        self.check_leads("ab/cd", [("level", 1, 0, 2), ("upright", 1, 0, 1), ("upright", 1, 1, 2)])
        self.check_leads("ab/ab/cd", [("level", 2, 0, 2), ("upright", 1, 0, 2), ("upright", 1, 2, 3)])
        self.check_leads("ab/cd/ef", [("level", 1, 0, 2), ("level", 2, 0, 2), ("upright", 1, 0, 1),
                                      ("upright", 1, 1, 2), ("upright", 1, 2, 3)])

    def test_an_upright_lead_goes_on_where_a_level_one_ends_at_it(self):
        self.check_leads("ab/ac", [("upright", 1, 0, 2), ("level", 1, 1, 2)])
        self.check_leads("ab/cb", [("upright", 1, 0, 2), ("level", 1, 0, 1)])
        self.check_leads("ab/cb/cd", [("upright", 1, 0, 3), ("level", 1, 0, 1), ("level", 2, 1, 2)])

    def test_a_level_lead_goes_on_where_an_upright_one_meets_it(self):
        self.check_leads("ab/cc", [("level", 1, 0, 2), ("upright", 1, 0, 1)])
        self.check_leads("aa/bc", [("level", 1, 0, 2), ("upright", 1, 1, 2)])
        self.check_leads("aab/cdd", [("level", 1, 0, 3), ("upright", 2, 0, 1), ("upright", 1, 1, 2)])

    def test_level_leads_as_long_as_they_can_be(self):
        drawn = "abcdefghijkl/mnopqrstuvwx"
        due = [("level", 1, 0, 12)]
        due += [("upright", line, row, row + 1) for line in range(1, 12) for row in (0, 1)]
        self.check_leads(drawn, due)

    def test_two_level_leads_on_one_line(self):
        self.check_leads("abc/dbe", [("level", 1, 0, 1), ("level", 1, 2, 3),
                                     ("upright", 1, 0, 2), ("upright", 2, 0, 2)])

    def test_two_upright_leads_on_one_line(self):
        self.check_leads("ab/cc/de", [("level", 1, 0, 2), ("level", 2, 0, 2),
                                      ("upright", 1, 0, 1), ("upright", 1, 2, 3)])

    def test_a_wheel(self):
        self.check_leads(WHEEL, WHEEL_TURN)
        self.check_leads(MIRRORED, MIRRORED_TURN)

    def test_a_lead_of_a_block_ends_at_its_edge(self):
        drawn = "abc/def"
        self.check_leads(drawn, [("level", 1, 0, 2), ("upright", 1, 0, 1), ("upright", 1, 1, 2)], (0, 0, 2, 2))
        self.check_leads(drawn, [("level", 1, 1, 2)], (0, 1, 2, 2))
        self.check_leads(drawn, [("upright", 2, 1, 2)], (1, 1, 2, 3))

    def test_a_level_lead_only_of_the_panel_does_not_end_an_upright_one_of_a_block(self):
        # The level line 1 is the block's edge, so it is no line within it.
        self.check_leads("aaa/bcd/bce", [("upright", 1, 1, 3), ("upright", 2, 1, 3), ("level", 2, 2, 3)], (1, 0, 3, 3))

    def test_a_block_within_a_wheel_of_more(self):
        drawn = "aaab/cddb/ceeb/cfff"
        panel = read_drawing(drawn)
        self.assertEqual(leads(panel, (1, 1, 3, 3)), [("level", 2, 1, 3)])
        self.check_leads(drawn, [("level", 1, 0, 3), ("upright", 3, 0, 3), ("level", 3, 1, 4), ("upright", 1, 1, 4),
                                 ("level", 2, 1, 3)])

    def test_every_block_of_every_small_panel(self):
        for width, height in ((2, 2), (3, 2), (2, 3), (3, 3), (4, 3), (3, 4)):
            for panes in all_panels(width, height):
                panel = Panel(width, height, panes)
                blocks = all_blocks(panel) if width + height < 7 else [(0, 0, height, width)]
                for block in blocks:
                    self.assertEqual(sorted(leads(panel, block)), sorted(leads_due(panel, block)), (panes, block))

    def test_leads_never_cross(self):
        for panes in all_panels(4, 3):
            told = leads(Panel(4, 3, panes), (0, 0, 3, 4))
            self.assertEqual(len(told), len(set(told)), panes)
            for one, other in itertools.combinations(told, 2):
                self.assertFalse(set(points(one)[1:-1]) & set(points(other)[1:-1]), panes)

    def test_kinds_of_what_is_told(self):
        told = leads(panel=read_drawing(WHEEL), block=(0, 0, 3, 4))
        self.assertIs(type(told), list)
        self.assertEqual({type(lead) for lead in told}, {tuple})
        self.assertEqual({tuple(type(part) for part in lead) for lead in told}, {(str, int, int, int)})

    def test_told_lists_changed_and_told_again(self):
        panel = read_drawing(WHEEL)
        told = leads(panel, (0, 0, 3, 4))
        kept = list(told)
        told.pop()
        told.append(None)
        self.assertEqual(leads(panel, (0, 0, 3, 4)), kept)
        self.assertEqual(panel.panes(), read_drawing(WHEEL).panes())


class TestLiesOn(unittest.TestCase):
    def test_level_on_upright(self):
        upright = ("upright", 3, 1, 5)
        self.assertIs(lies_on(("level", 2, 0, 3), upright), True)
        self.assertIs(lies_on(("level", 2, 3, 7), upright), True)
        self.assertIs(lies_on(lead=("level", 4, 0, 3), other=upright), True)

    def test_upright_on_level(self):
        level = ("level", 3, 1, 5)
        self.assertIs(lies_on(("upright", 2, 0, 3), level), True)
        self.assertIs(lies_on(("upright", 2, 3, 7), level), True)
        self.assertIs(lies_on(("upright", 4, 3, 4), level), True)

    def test_an_end_at_an_end(self):
        for line in (1, 5):
            for ends in ((0, 3), (3, 7)):
                self.assertIs(lies_on(("level", line) + ends, ("upright", 3, 1, 5)), False)
                self.assertIs(lies_on(("upright", line) + ends, ("level", 3, 1, 5)), False)

    def test_an_inside_at_an_end_or_an_inside(self):
        self.assertIs(lies_on(("upright", 3, 1, 5), ("level", 2, 0, 3)), False)
        self.assertIs(lies_on(("level", 3, 1, 5), ("upright", 2, 0, 3)), False)
        self.assertIs(lies_on(("level", 2, 0, 5), ("upright", 3, 1, 5)), False)

    def test_beyond_the_other_one(self):
        for line in (0, 6, 9):
            self.assertIs(lies_on(("level", line, 0, 3), ("upright", 3, 1, 5)), False)
            self.assertIs(lies_on(("upright", line, 0, 3), ("level", 3, 1, 5)), False)

    def test_two_of_one_kind(self):
        for word in ("level", "upright"):
            self.assertIs(lies_on((word, 2, 0, 3), (word, 3, 1, 5)), False)
            self.assertIs(lies_on((word, 2, 0, 3), (word, 2, 1, 5)), False)
            self.assertIs(lies_on((word, 2, 0, 3), (word, 2, 0, 3)), False)

    def test_every_pair_of_small_leads(self):
        runs = list(itertools.combinations(range(5), 2))
        some = [(word, line) + run for word in ("level", "upright") for line in range(5) for run in runs]
        for one, other in itertools.product(some, repeat=2):
            self.assertIs(lies_on(one, other), on_inside(one, other), (one, other))


class TestTurn(unittest.TestCase):
    def rounds(self, some):
        """The four, beginning with any."""
        return [some[place:] + some[:place] for place in range(4)]

    def test_four_that_turn_one_way_and_the_other_way(self):
        for four in (WHEEL_TURN, MIRRORED_TURN):
            for some in self.rounds(four):
                self.assertIs(turn(some), True)
                self.assertIs(turn(some=some), True)

    def test_told_against_their_turn(self):
        for four in (WHEEL_TURN, MIRRORED_TURN):
            for some in self.rounds(four):
                self.assertIs(turn(some[::-1]), False)

    def test_every_order_of_the_four(self):
        for four in (WHEEL_TURN, MIRRORED_TURN):
            for some in itertools.permutations(four):
                self.assertIs(turn(list(some)), list(some) in self.rounds(four), some)

    def test_two_exchanged(self):
        for one, other in itertools.combinations(range(4), 2):
            some = list(WHEEL_TURN)
            some[one], some[other] = some[other], some[one]
            self.assertIs(turn(some), False, some)

    def test_fewer_and_more(self):
        self.assertIs(turn([]), False)
        for four in (WHEEL_TURN, MIRRORED_TURN):
            for some in self.rounds(four):
                self.assertIs(turn(some[:1]), False)
                self.assertIs(turn(some[:2]), False)
                self.assertIs(turn(some[:3]), False)
                self.assertIs(turn(some + some[:1]), False)
                self.assertIs(turn(some + [("level", 9, 0, 1)]), False)
                self.assertIs(turn(some + some), False)

    def test_one_lead_or_two_again_and_again(self):
        self.assertIs(turn(WHEEL_TURN[:1] * 4), False)
        self.assertIs(turn(WHEEL_TURN[:2] * 2), False)
        self.assertIs(turn(WHEEL_TURN[:3] + WHEEL_TURN[1:2]), False)

    def test_one_moved_by_one(self):
        seen = {True: 0, False: 0}
        for four in (WHEEL_TURN, MIRRORED_TURN):
            for place, part, step in itertools.product(range(4), (1, 2, 3), (-1, 1)):
                moved = list(four[place])
                moved[part] += step
                some = list(four)
                some[place] = tuple(moved)
                self.assertIs(turn(some), turn_due(some), some)
                seen[turn_due(some)] += 1
            for place, step in itertools.product(range(4), (-1, 1)):
                word, line, begin, end = four[place]
                some = list(four)
                some[place] = (word, line + step, begin, end)
                self.assertIs(turn(some), False, some)
        # A lead may be longer at the end that isn't the one that turns.
        self.assertGreater(seen[True], 0)
        self.assertGreater(seen[False], 0)

    def test_one_too_short_to_be_met_on_its_inside(self):
        self.assertIs(turn([("level", 1, 1, 3)] + WHEEL_TURN[1:]), False)
        self.assertIs(turn([("level", 1, 0, 2)] + WHEEL_TURN[1:]), False)
        self.assertIs(turn([("level", 1, 0, 4)] + WHEEL_TURN[1:]), False)

    def test_one_of_the_other_kind(self):
        for place in range(4):
            some = list(WHEEL_TURN)
            word = {"level": "upright", "upright": "level"}[some[place][0]]
            some[place] = (word,) + some[place][1:]
            self.assertIs(turn(some), False)

    def test_the_list_handed_in_stays_as_it_was(self):
        some = list(WHEEL_TURN)
        turn(some)
        self.assertEqual(some, WHEEL_TURN)
        some = some[:3]
        turn(some)
        self.assertEqual(some, WHEEL_TURN[:3])

    def test_every_four_leads_of_every_panel_of_three_by_three(self):
        for panes in all_panels(3, 3):
            told = leads(Panel(3, 3, panes), (0, 0, 3, 3))
            if len(told) < 7:
                for some in itertools.permutations(told, 4):
                    self.assertIs(turn(list(some)), turn_due(some), some)

    def test_a_block_that_no_line_goes_through_has_four_leads_that_turn(self):
        seen = 0
        for panes in all_panels(4, 3):
            panel = Panel(4, 3, panes)
            for block in ((0, 0, 3, 4), (0, 0, 3, 3), (0, 1, 3, 4)):
                if is_block(panel, block) and self.is_stuck(panel, block):
                    seen += 1
                    fours = itertools.permutations(leads(panel, block), 4)
                    self.assertTrue(any(turn(list(some)) for some in fours), (panes, block))
        self.assertGreater(seen, 10)

    def is_stuck(self, panel, block):
        return len(panes_in(panel, block)) > 1 and through(panel, block) == ([], [])


if __name__ == "__main__":
    unittest.main()
