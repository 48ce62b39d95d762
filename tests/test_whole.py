"""What is promised over the whole program [1, 2, 3, the interface]."""

import copy
import importlib
import inspect
import random
import unittest

from glazebench import bench, blocks, counts, cuts, cuttexts, desk, drawings, errors, flaws, forms, leads, moves
from glazebench import numbers, panels, plans, rooms, stairs, worths
from glazebench.bench import Bench
from glazebench.cuts import Level, Tree, Upright, Whole, panel_of, pieces
from glazebench.cuttexts import read_tree, written
from glazebench.desk import Desk
from glazebench.drawings import LETTERS, drawing, read_drawing
from glazebench.errors import GlassError, NoGlass, Stuck
from glazebench.leads import turn
from glazebench.panels import Panel
from glazebench.plans import least_glass, plan

# The interface: for each module its functions, with the arguments.
FUNCTIONS = {
    panels: {"is_side": "thing", "is_rectangle": "thing", "inside": "one other"},
    drawings: {"drawing": "panel", "read_drawing": "text"},
    cuts: {"pieces": "tree width height", "panel_of": "tree width height"},
    cuttexts: {"written": "tree", "read_tree": "text"},
    blocks: {"is_block": "panel block", "panes_in": "panel block", "through": "panel block"},
    leads: {"leads": "panel block", "lies_on": "lead other", "turn": "some"},
    rooms: {"tree_of": "panel"},
    forms: {"form": "tree width height", "alike": "tree other width height"},
    moves: {"moved": "tree move", "led": "tree other width height"},
    counts: {"count": "width height"},
    numbers: {"panel_by": "width height number", "number_of": "panel"},
    worths: {"worths": "width height kinds", "best": "width height kinds", "worth_of": "tree width height kinds"},
    flaws: {"flawed_worths": "width height kinds flaws", "flawed_best": "width height kinds flaws"},
    stairs: {"stairs": "wants", "stair_tree": "wants bits width height"},
    plans: {"least_glass": "wants sheets", "plan": "wants sheets"},
}
# For each class its arguments, and its methods with theirs.
CLASSES = {
    (panels, "Panel"): ("width height panes", {"panes": "", "pane_at": "row column", "turned": ""}),
    (bench, "Bench"): ("sheets", {"cut": "width height turns", "sheets": "", "offcuts": "", "areas": ""}),
    (desk, "Desk"): ("", {"say": "line"}),
}
TREE_METHODS = {"leaves": "", "depth": "", "turned": "", "fits": "width height", "same": "other"}
for tree_class, arguments in (("Whole", "mark"), ("Upright", "at first other"), ("Level", "at first other")):
    CLASSES[(cuts, tree_class)] = (arguments, TREE_METHODS)
REFUSALS = {
    "NoSide": "side", "TooMany": "many", "NoPane": "place", "Overlap": "place", "Bare": "square",
    "NoDrawing": "drawing", "Ragged": "letter", "NoCut": "at", "NoTree": "place", "NoBlock": "block",
    "Stuck": "room breaks leads", "NoMove": "steps", "Unlike": "", "NoNumber": "number", "NoKind": "place",
    "Unfit": "piece", "NoFlaw": "place", "NoWant": "place", "NoSheet": "place", "NoSize": "size", "NoPlan": "want",
    "NoGlass": "width height", "NoLine": "line", "NoName": "name"}

WHEEL = "aaab/cddb/ceee"
KINDS = [(2, 1, 3, True), (1, 1, 1, False), (3, 2, 11, True)]
WANTS = [(3, 2, True), (2, 2, False), (1, 4, True), (2, 1, False)]
SHEETS = [(4, 4), (5, 3)]
LEADS = [("level", 1, 0, 3), ("upright", 3, 0, 2), ("level", 2, 1, 4), ("upright", 1, 1, 3)]


def arguments_of(asked):
    return [name for name in inspect.signature(asked).parameters if name != "self"]


def any_tree(chance, width, height, leaves):
    """Any tree of at most so many leaves that fits, without marks."""
    cuts_within = [("|", at) for at in range(1, width)] + [("-", at) for at in range(1, height)]
    if leaves == 1 or not cuts_within or chance.random() < 0.1:
        return Whole()
    sign, at = chance.choice(cuts_within)
    first = leaves // 2
    if sign == "|":
        return Upright(at, any_tree(chance, at, height, first), any_tree(chance, width - at, height, leaves - first))
    return Level(at, any_tree(chance, width, at, first), any_tree(chance, width, height - at, leaves - first))


def with_other_letters(chance, text):
    letters = list(LETTERS)
    chance.shuffle(letters)
    return "".join(sign if sign == "/" else letters[LETTERS.index(sign)] for sign in text)


def plain(thing):
    """What is told, without objects, so that it can be compared."""
    if isinstance(thing, Tree):
        return written(thing)
    if isinstance(thing, Panel):
        return (thing.width, thing.height, thing.panes())
    if isinstance(thing, (list, tuple)):
        return type(thing)(plain(part) for part in thing)
    if isinstance(thing, dict):
        return {key: plain(part) for key, part in thing.items()}
    return thing


def spoil(thing):
    """Does to a thing that was told all that an asker may do to it."""
    if isinstance(thing, (list, tuple)):
        for part in thing:
            spoil(part)
    if isinstance(thing, dict):
        for part in thing.values():
            spoil(part)
    if isinstance(thing, (list, dict)):
        thing.clear()


def all_calls():
    """Each function of the interface with arguments for it, and some that are refused with lists."""
    panel, wheel, tree = read_drawing("aab/ccb"), read_drawing(WHEEL), read_tree("-1 |1 #0 #1 |1 #2 #3")
    sheet = (0, 0, 2, 3)
    return [
        (panels.is_side, [3]), (panels.is_rectangle, [sheet]), (panels.inside, [(0, 0, 1, 1), sheet]),
        (drawings.drawing, [panel]), (drawings.read_drawing, ["aab/ccb"]), (cuts.pieces, [tree, 2, 2]),
        (cuts.panel_of, [tree, 2, 2]), (cuttexts.written, [tree]), (cuttexts.read_tree, ["|2 . -1 #0 ."]),
        (blocks.is_block, [panel, sheet]), (blocks.panes_in, [panel, sheet]), (blocks.through, [panel, sheet]),
        (leads.leads, [wheel, (0, 0, 3, 4)]), (leads.lies_on, [LEADS[0], LEADS[1]]), (leads.turn, [list(LEADS)]),
        (rooms.tree_of, [panel]), (rooms.tree_of, [wheel]), (forms.form, [tree, 2, 2]),
        (forms.alike, [tree, read_tree("."), 2, 2]), (moves.moved, [tree, ((), "cross")]),
        (moves.led, [tree, read_tree("|1 -1 #0 #2 -1 #1 #3"), 2, 2]), (counts.count, [4, 3]),
        (numbers.panel_by, [4, 3, 1000]), (numbers.number_of, [panel]), (numbers.number_of, [wheel]),
        (worths.worths, [5, 4, list(KINDS)]), (worths.best, [5, 4, list(KINDS)]),
        (worths.worth_of, [read_tree("-1 #0 ."), 2, 2, list(KINDS)]),
        (flaws.flawed_worths, [3, 4, list(KINDS), [(0, 0), (2, 2)]]),
        (flaws.flawed_best, [3, 4, list(KINDS), [(0, 0), (2, 2)]]), (stairs.stairs, [list(WANTS)]),
        (stairs.stair_tree, [list(WANTS), 15, 5, 6]), (plans.least_glass, [list(WANTS), list(SHEETS)]),
        (plans.plan, [list(WANTS), list(SHEETS)])]


def answer_to(asked, things):
    """What is told, or, of a refusal, its values."""
    try:
        return asked(*things)
    except GlassError as refusal:
        return vars(refusal)


class TestInterface(unittest.TestCase):
    def test_functions(self):
        for module, functions in FUNCTIONS.items():
            for name, arguments in functions.items():
                asked = getattr(module, name)
                self.assertEqual(asked.__module__, module.__name__)
                self.assertEqual(arguments_of(asked), arguments.split(), name)

    def test_classes_and_methods(self):
        for (module, name), (arguments, methods) in CLASSES.items():
            made = getattr(module, name)
            self.assertEqual(arguments_of(made), arguments.split(), name)
            for method, its_arguments in methods.items():
                self.assertEqual(arguments_of(getattr(made, method)), its_arguments.split(), (name, method))

    def test_arguments_that_may_be_left_out(self):
        self.assertIsNone(inspect.signature(Whole).parameters["mark"].default)
        self.assertIs(inspect.signature(Bench.cut).parameters["turns"].default, False)

    def test_refusals(self):
        self.assertEqual(GlassError.__bases__, (ValueError,))
        for name, arguments in REFUSALS.items():
            made = getattr(errors, name)
            self.assertEqual(made.__bases__, (GlassError,))
            values = [object() for argument in arguments.split()]
            refusal = made(*values)
            for argument, value in zip(arguments.split(), values):
                self.assertIs(getattr(refusal, argument), value)
            by_name = made(**dict(zip(arguments.split(), values)))
            self.assertEqual(vars(by_name), vars(refusal))

    def test_lines_is_a_module_too(self):
        self.assertTrue(importlib.import_module("glazebench.lines"))


class TestOnesOwn(unittest.TestCase):
    def test_every_function_is_among_the_calls(self):
        called = {(asked.__module__, asked.__name__) for asked, things in all_calls()}
        self.assertEqual(called, {(module.__name__, name) for module, functions in FUNCTIONS.items()
                                  for name in functions})

    def test_nothing_that_is_handed_in_is_changed(self):
        for asked, things in all_calls():
            due = copy.deepcopy(plain(things))
            spoil(answer_to(asked, things))
            self.assertEqual(plain(things), due, asked.__name__)

    def test_the_same_again_whatever_is_done_to_what_was_told(self):
        due = [copy.deepcopy(plain(answer_to(asked, things))) for asked, things in all_calls()]
        calls = all_calls()
        for again in range(3):
            for place, (asked, things) in enumerate(calls):
                told = answer_to(asked, things)
                self.assertEqual(plain(told), due[place], asked.__name__)
                spoil(told)

    def test_what_was_told_stays_whatever_is_asked_later(self):
        calls = all_calls()
        told = [answer_to(asked, things) for asked, things in calls]
        due = copy.deepcopy(plain(told))
        for asked, things in calls:
            spoil(answer_to(asked, things))
            # What was handed in is the asker's own too.
            for thing in things:
                spoil(thing)
        self.assertEqual(plain(told), due)

    def test_a_panel_and_a_bench_keep_copies(self):
        panes, sizes = [(0, 0, 1, 1), (0, 1, 1, 2)], [(3, 3)]
        panel, some = Panel(2, 1, panes), Bench(sizes)
        panes.clear()
        sizes[0] = (1, 1)
        self.assertEqual(panel.panes(), [(0, 0, 1, 1), (0, 1, 1, 2)])
        self.assertEqual(some.cut(3, 2), (0, (0, 0, 2, 3)))
        some.sheets().clear()
        panel.panes().clear()
        self.assertEqual(some.areas(), (9, 6, 3))
        self.assertEqual(len(panel.panes()), 2)


class TestPromise(unittest.TestCase):
    def check_drawing(self, chance, panel):
        text = with_other_letters(chance, drawing(panel))
        some = Desk()
        some.say("panel abc " + text)
        in_order = some.say("draw abc")
        self.assertEqual(in_order, drawing(panel))
        words = some.say("tree abc")
        if words.startswith("stuck "):
            self.check_stuck(panel, some)
            return False
        self.assertEqual(drawing(panel_of(read_tree(words), panel.width, panel.height)), in_order)
        self.assertEqual(some.say("leads abc"), "none")
        # The same words make the same panel at the desk.
        some.say(f"cut other {panel.width} {panel.height} {words}")
        self.assertEqual(some.say("draw other"), in_order)
        self.assertEqual(some.say(f"form {panel.width} {panel.height} {words}"), words)
        return True

    def check_stuck(self, panel, some):
        with self.assertRaises(Stuck) as caught:
            rooms.tree_of(panel)
        room = caught.exception.room
        self.assertEqual(some.say("tree abc"), "stuck " + " ".join(str(part) for part in room))
        self.assertTrue(blocks.is_block(panel, room))
        self.assertEqual(blocks.through(panel, room), ([], []))
        self.assertGreaterEqual(len(blocks.panes_in(panel, room)), 2)
        parts = [part.split(" ") for part in some.say("leads abc").split("; ")]
        told = [(part[0], int(part[1]), int(part[2]), int(part[3])) for part in parts]
        self.assertTrue(turn(told))
        self.assertLessEqual(set(told), set(leads.leads(panel, room)))

    def test_a_drawing_told_to_a_desk(self):
        chance = random.Random(3)
        for trial in range(60):
            width, height = chance.randint(1, 12), chance.randint(1, 12)
            tree = any_tree(chance, width, height, chance.choice((1, 2, 5, 20, 52)))
            self.assertTrue(self.check_drawing(chance, panel_of(tree, width, height)))

    def test_all_drawings_of_small_panels(self):
        chance = random.Random(4)
        for number in range(counts.count(3, 2)):
            self.assertTrue(self.check_drawing(chance, numbers.panel_by(3, 2, number)))

    def test_drawings_with_a_room(self):
        chance = random.Random(5)
        for text in (WHEEL, "abb/acd/eed", "aab/cdb/cee", "xaaab/xcddb/xceee/yyyyy"):
            self.assertFalse(self.check_drawing(chance, read_drawing(text)), text)

    def test_numbers_at_the_desk(self):
        some = Desk()
        drawn = {}
        for number in range(counts.count(2, 3)):
            some.say(f"numbered abc 2 3 {number}")
            self.assertEqual(some.say("number abc"), str(number))
            drawn[some.say("draw abc")] = number
        self.assertEqual(len(drawn), counts.count(2, 3))


class TestOrders(unittest.TestCase):
    def bench_after(self, sheets, wants):
        some = Bench(sheets)
        panes = [some.cut(width, height, turns) for width, height, turns in wants]
        return some, panes

    def test_a_plan_has_no_more_glass_than_a_bench(self):
        chance = random.Random(6)
        less = 0
        for trial in range(60):
            wants = [(chance.randint(1, 6), chance.randint(1, 6), chance.random() < 0.5)
                     for place in range(chance.randint(0, 6))]
            sheets = [(chance.randint(1, 12), chance.randint(1, 12)) for place in range(chance.randint(0, 3))]
            sheets.append((chance.randint(6, 12), chance.randint(6, 12)))
            glass = sum(sheets[number][0] * sheets[number][1] for number, tree in plan(wants, sheets))
            self.assertEqual(glass, least_glass(wants, sheets)[2 ** len(wants) - 1])
            some, panes = self.bench_after(sheets, wants)
            self.assertLessEqual(glass, some.areas()[0])
            less += glass < some.areas()[0]
        self.assertGreater(less, 0)

    def test_no_plan_where_a_bench_finds_no_glass(self):
        chance = random.Random(7)
        for trial in range(60):
            want = (chance.randint(1, 12), chance.randint(1, 12), chance.random() < 0.5)
            sheets = [(chance.randint(1, 12), chance.randint(1, 12)) for place in range(chance.randint(1, 4))]
            glass = least_glass([want], sheets)[1]
            if glass is None:
                with self.assertRaises(NoGlass):
                    Bench(sheets).cut(*want)
            else:
                some, panes = self.bench_after(sheets, [want])
                self.assertEqual(some.areas()[0], glass)

    def test_a_bench_never_makes_or_loses_glass(self):
        chance = random.Random(8)
        for trial in range(20):
            sheets = [(chance.randint(1, 12), chance.randint(1, 12)) for place in range(3)] + [(8, 8)]
            wants = [(chance.randint(1, 8), chance.randint(1, 8), True) for place in range(60)]
            some, panes = self.bench_after(sheets, wants)
            left, marked = [], {}
            for place, (number, tree) in enumerate(some.sheets()):
                self.assertTrue(tree.fits(*sheets[number]))
                found = pieces(tree, *sheets[number])
                squares = [square for piece, mark in found for square in panels.squares_of(piece)]
                # Each square of the sheet lies in just one piece.
                self.assertEqual(sorted(squares), panels.squares_of((0, 0, sheets[number][1], sheets[number][0])))
                left += [(place, piece) for piece, mark in found if mark is None]
                marked.update({mark: (place, piece) for piece, mark in found if mark is not None})
            self.assertEqual([marked[mark] for mark in sorted(marked)], panes)
            self.assertEqual(sorted(marked), list(range(60)))
            self.assertEqual(some.offcuts(), sorted(left))
            taken, cut, rest = some.areas()
            self.assertEqual(taken, cut + rest)
            self.assertEqual(cut, sum(width * height for width, height, turns in wants))

    def test_a_plan_s_trees_at_the_desk(self):
        some = Desk()
        for line in ("want 3 2 turns", "want 2 2", "want 1 4 turns", "want 2 1", "sheet 4 4", "sheet 5 3"):
            some.say(line)
        parts = some.say("plan").split("; ")
        self.assertEqual(parts[0], str(least_glass(WANTS, SHEETS)[15]))
        marks = []
        for part in parts[1:]:
            number, blank, words = part.partition(" ")
            tree = read_tree(words)
            self.assertTrue(tree.fits(*SHEETS[int(number)]))
            marks += [mark for piece, mark in pieces(tree, *SHEETS[int(number)]) if mark is not None]
        self.assertEqual(sorted(marks), [0, 1, 2, 3])


if __name__ == "__main__":
    unittest.main()
