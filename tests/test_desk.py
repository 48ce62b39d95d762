"""The desk: its lines, their answers and refusals [2, 26, the interface]."""

import random
import time
import unittest

from glazebench.bench import Bench
from glazebench.cuts import Whole, panel_of
from glazebench.cuttexts import read_tree, written
from glazebench.desk import Desk
from glazebench.drawings import drawing, read_drawing
from glazebench.errors import (
    GlassError, NoCut, NoDrawing, NoGlass, NoKind, NoLine, NoName, NoNumber, NoPlan, NoSheet, NoSide, NoTree, NoWant,
    Ragged, Stuck, TooMany)
from glazebench.leads import turn
from glazebench.numbers import number_of, panel_by
from glazebench.plans import least_glass, plan
from glazebench.rooms import tree_of
from glazebench.worths import best, worths


class Touchy:
    """A thing that fails wherever it is compared, counted or written out."""

    def fail(self, *things):
        raise RuntimeError("touched")

    __eq__ = __lt__ = __le__ = __gt__ = __ge__ = fail
    __len__ = __iter__ = __getitem__ = __int__ = __index__ = __bool__ = __repr__ = fail
    __hash__ = None


NO_TEXTS = [None, True, False, 0, 1, 0.5, 2j, b"plan", b"", bytearray(b"plan"), [], ["plan"], (), ("plan",), {},
            {"plan": 1}, set(), {"plan"}, range(3), object(), str, len, Whole(), Touchy()]

WHEEL = "aaab/cddb/ceee"
SMALL_LETTERS = "abcdefghijklmnopqrstuvwxyz"

# One of each form: those that end with a word of their own, and those with a tree or a drawing at the end.
CLOSED = ("draw abc", "tree abc", "leads abc", "number abc", "numbered abc 2 2 3", "kind 2 1 3", "kind 2 1 3 turns",
          "worth 2 2", "best 2 2", "want 2 1", "want 2 1 turns", "sheet 3 3", "plan", "bench", "take 1 1",
          "take 1 1 turns", "areas", "clear")
OPEN = ("panel abc ab/ab", "cut abc 2 2 |1 . .", "form 2 2 |1 . .")

NO_NUMBERS = ("", "00", "01", "007", "+1", "-1", "1_0", "_1", "1_", "1.0", "1.", "0x1", "1e1", "1234567890",
              "0123456789", "1000000000", "a", "N", "one", "1\n", "\n1", "1\t", "\t1", "1,", "#1", "|1", "-0", "1a",
              "--1", "None", "True")
NO_NAMES = ("", "abcdefghi", "abcdefghijkl", "Abc", "abC", "ABC", "a1", "1", "1a", "a_b", "_", "a-b", "a.b", "a/b",
            "a\n", "\na", "a\t", "\ta", "NAME", "a,", "#a", "'a'")

# These change nothing that they ask for, and tell nearly all that a desk keeps.
ASKING = ("draw abc", "tree abc", "leads abc", "number abc", "draw w", "leads w", "draw q", "worth 5 5", "best 4 3",
          "plan", "areas", "form 2 2 -1 |1 . . |1 . .")

# Lines that are refused whatever stands.
REFUSED = (
    "", " ", "plan ", " plan", "bench\n", "Clear", "clear clear", "panel abc aba", "panel abc ", "panel abc a/bb",
    "panel abc 1", "panel w ab/ba", "cut abc 2 2 |2 . .", "cut abc 0 2 .", "cut abc 2 13 .", "cut abc 2 2 |1 .",
    "cut q 1 1 x", "numbered abc 5 2 0", "numbered abc 2 2 8", "numbered q 0 2 0", "kind 0 1 1", "kind 1 13 1 turns",
    "want 13 1", "want 1 0 turns", "sheet 0 3", "sheet 3 13", "sheet 3", "take 0 1", "take 1 13 turns", "take 1 1 turn",
    "draw zz", "number zz", "form 2 2 |2 . .", "form 13 2 .", "worth 0 1", "best 1 13", "kind 1 1 1 turned",
    "want 1 1 1 turns", "take 1 1 1", None, 5, b"clear", ["clear"])


def answered(desk, line):
    """The answer to a line; of a refusal its class and values."""
    try:
        return desk.say(line)
    except GlassError as refusal:
        return (type(refusal), vars(refusal))


def told(*lines):
    desk = Desk()
    for line in lines:
        desk.say(line)
    return desk


class DeskCase(unittest.TestCase):
    def says(self, desk, line, answer):
        self.assertEqual(desk.say(line), answer)

    def refused(self, desk, line, kind, **values):
        with self.assertRaises(GlassError) as caught:
            desk.say(line)
        self.assertIs(type(caught.exception), kind, line)
        self.assertEqual(vars(caught.exception), values, line)

    def no_line(self, desk, line):
        with self.assertRaises(GlassError) as caught:
            desk.say(line)
        self.assertIs(type(caught.exception), NoLine, line)
        self.assertIs(caught.exception.line, line)


class TestPanels(DeskCase):
    def test_panel_draw_tree(self):
        desk = Desk()
        self.says(desk, "panel abc xxy/zzy", "ok")
        self.says(desk, "draw abc", "aab/ccb")
        self.says(desk, "tree abc", "|2 -1 . . .")
        self.says(desk, "leads abc", "none")
        self.says(desk, "panel one a", "ok")
        self.says(desk, "tree one", ".")
        self.says(desk, "leads one", "none")

    def test_a_panel_with_a_room(self):
        desk = told("panel w " + WHEEL)
        self.says(desk, "draw w", WHEEL)
        self.says(desk, "tree w", "stuck 0 0 3 4")
        parts = desk.say("leads w").split("; ")
        leads = [tuple([part.split(" ")[0]] + [int(word) for word in part.split(" ")[1:]]) for part in parts]
        self.assertTrue(turn(leads))
        self.assertEqual({lead[0] for lead in leads}, {"level", "upright"})
        with self.assertRaises(Stuck) as caught:
            desk.say("number w")
        self.assertIs(type(caught.exception), Stuck)
        self.assertEqual(caught.exception.room, (0, 0, 3, 4))
        self.assertEqual(caught.exception.leads, leads)

    def test_the_room_and_the_leads_are_those_that_the_stage_tells(self):
        for text in (WHEEL, "hhhhhh/faaabg/fcddbg/fceeeg", "abbc/addc/efgh", "aab/cdb/cee"):
            panel = read_drawing(text)
            desk = told("panel w " + text)
            try:
                words = written(tree_of(panel))
                leads = "none"
            except Stuck as refusal:
                words = "stuck " + " ".join(str(number) for number in refusal.room)
                leads = "; ".join(" ".join(str(part) for part in lead) for lead in refusal.leads)
            self.says(desk, "tree w", words)
            self.says(desk, "leads w", leads)

    def test_a_room_within(self):
        desk = told("panel w xaaab/xcddb/xceee/yyyyy")
        self.says(desk, "tree w", "stuck 0 1 3 5")
        self.assertEqual(len(desk.say("leads w").split("; ")), 4)
        self.refused(desk, "number w", NoSide, side=5)

    def test_cut(self):
        desk = Desk()
        self.says(desk, "cut abc 3 2 |2 . -1 #0 .", "ok")
        self.says(desk, "draw abc", "aab/aac")
        self.says(desk, "tree abc", "|2 . -1 . .")
        self.says(desk, "cut abc 12 1 .", "ok")
        self.says(desk, "draw abc", "a" * 12)
        self.says(desk, "cut abc 1 12 #999", "ok")
        self.says(desk, "draw abc", "/".join("a" * 12))

    def test_cut_of_fifty_two_pieces(self):
        rows = ["-1", "|1 . " * 11 + "."] * 4
        words = " ".join(rows + ["|1 . |1 . |1 . ."])
        self.assertEqual(len(words.split(" ")), 103)
        desk = Desk()
        self.says(desk, "cut abc 12 5 " + words, "ok")
        self.says(desk, "draw abc", drawing(panel_of(read_tree(words), 12, 5)))
        self.says(desk, "tree abc", written(tree_of(panel_of(read_tree(words), 12, 5))))
        self.says(desk, "form 12 5 " + words, desk.say("tree abc"))
        self.refused(desk, "cut abc 12 5 " + " ".join(rows + ["|1 . |1 . |1 . |1 . ."]), NoTree, place=103)

    def test_form(self):
        desk = Desk()
        self.says(desk, "form 2 2 -1 |1 #0 #1 |1 #2 #3", "|1 -1 #0 #2 -1 #1 #3")
        self.says(desk, "form 12 12 .", ".")
        self.says(desk, "form 3 1 |2 |1 . #7 .", "|1 . |1 #7 .")

    def test_number_and_numbered(self):
        desk = Desk()
        for number in (0, 3, 7):
            self.says(desk, f"numbered abc 2 2 {number}", "ok")
            self.says(desk, "number abc", str(number))
            self.says(desk, "draw abc", drawing(panel_by(2, 2, number)))
        self.says(desk, "numbered abc 4 3 1000", "ok")
        self.says(desk, "number abc", "1000")
        self.says(desk, "panel abc ab/ab", "ok")
        self.says(desk, "number abc", str(number_of(read_drawing("ab/ab"))))

    def test_a_name_that_is_told_again(self):
        desk = told("panel abc ab", "panel other a/b")
        self.says(desk, "panel abc aab/ccb", "ok")
        self.says(desk, "draw abc", "aab/ccb")
        self.says(desk, "cut abc 2 1 |1 . .", "ok")
        self.says(desk, "draw abc", "ab")
        self.says(desk, "numbered abc 1 1 0", "ok")
        self.says(desk, "draw abc", "a")
        self.says(desk, "panel abc " + WHEEL, "ok")
        self.says(desk, "tree abc", "stuck 0 0 3 4")
        self.says(desk, "draw other", "a/b")

    def test_names_at_the_edges(self):
        desk = Desk()
        for name in ("abcdefgh", "ijklmnop", "qrstuvwx", "zzzzzzzz", "panel", "turns", "ok", "none", *SMALL_LETTERS):
            self.says(desk, f"panel {name} ab/cc", "ok")
            self.says(desk, f"draw {name}", "ab/cc")
            self.says(desk, f"cut {name} 2 1 |1 . .", "ok")
            self.says(desk, f"tree {name}", "|1 . .")
            self.says(desk, f"leads {name}", "none")
            self.says(desk, f"numbered {name} 1 2 0", "ok")
            self.assertIn(desk.say(f"number {name}"), ("0", "1"))


class TestStock(DeskCase):
    def test_kinds_worth_and_best(self):
        desk = Desk()
        self.says(desk, "worth 2 2", "0")
        self.says(desk, "best 2 2", ".")
        self.says(desk, "kind 2 1 3", "ok")
        self.says(desk, "worth 1 2", "0")
        self.says(desk, "worth 2 2", "6")
        self.says(desk, "best 2 2", "-1 #0 #0")
        self.says(desk, "kind 1 2 4", "ok")
        self.says(desk, "best 1 2", "#1")
        self.says(desk, "worth 1 2", "4")
        self.says(desk, "kind 3 1 999999999 turns", "ok")
        self.says(desk, "worth 1 3", "999999999")
        self.says(desk, "worth 3 1", "999999999")
        self.says(desk, "worth 6 6", str(12 * 999999999))

    def test_worth_and_best_as_the_stage_tells_them(self):
        chance = random.Random(26)
        for trial in range(15):
            desk = Desk()
            kinds = []
            for more in range(chance.randint(0, 8)):
                kinds.append((chance.randint(1, 5), chance.randint(1, 5), chance.randint(0, 99), chance.random() < 0.5))
                width, height, worth, turns = kinds[-1]
                self.says(desk, f"kind {width} {height} {worth}" + (" turns" if turns else ""), "ok")
            width, height = chance.randint(1, 12), chance.randint(1, 12)
            self.says(desk, f"worth {width} {height}", str(worths(width, height, kinds)[(width, height)]))
            self.says(desk, f"best {width} {height}", written(best(width, height, kinds)))

    def test_a_best_tree_of_many_pieces(self):
        desk = told("kind 1 1 1")
        self.says(desk, "worth 12 12", "144")
        self.assertEqual(desk.say("best 12 12").count("#0"), 144)

    def test_plan(self):
        desk = told("want 2 2", "want 4 2 turns", "sheet 6 2")
        self.says(desk, "plan", "12; 0 |2 #0 #1")
        desk = told("sheet 3 3", "sheet 2 2", "want 3 3", "want 2 2", "want 3 3")
        self.says(desk, "plan", "22; 0 #0; 1 #1; 0 #2")
        desk = told("sheet 2 1", "want 1 2 turns")
        self.says(desk, "plan", "2; 0 #0")

    def test_plan_for_no_wants(self):
        desk = Desk()
        self.says(desk, "plan", "0")
        for line in ("sheet 1 1", "sheet 12 12", "sheet 2 2", "sheet 2 2"):
            desk.say(line)
            self.says(desk, "plan", "0")

    def test_plan_for_no_sheets(self):
        self.refused(told("want 1 1"), "plan", TooMany, many=0)

    def test_no_plan(self):
        desk = told("want 1 1", "want 3 1", "sheet 2 12")
        self.refused(desk, "plan", NoPlan, want=1)
        self.refused(told("want 3 1", "want 3 1 turns", "sheet 2 12"), "plan", NoPlan, want=0)
        self.assertTrue(told("want 1 1", "want 3 1 turns", "sheet 2 12").say("plan").startswith("24; 0 "))

    def test_plan_as_the_stage_tells_it(self):
        chance = random.Random(260)
        for trial in range(10):
            wants = [(chance.randint(1, 5), chance.randint(1, 5), chance.random() < 0.5)
                     for place in range(chance.randint(1, 6))]
            sheets = [(chance.randint(1, 12), chance.randint(1, 12)) for place in range(chance.randint(0, 3))]
            sheets.append((6, 5))
            desk = told(*[f"want {width} {height}" + (" turns" if turns else "") for width, height, turns in wants],
                        *[f"sheet {width} {height}" for width, height in sheets])
            parts = [str(least_glass(wants, sheets)[2 ** len(wants) - 1])]
            parts += [f"{number} {written(tree)}" for number, tree in plan(wants, sheets)]
            self.says(desk, "plan", "; ".join(parts))

    def test_bench_take_areas(self):
        desk = told("sheet 5 4", "sheet 2 2")
        self.says(desk, "bench", "ok")
        self.says(desk, "areas", "0 0 0")
        self.says(desk, "take 3 1", "0 0 0 1 3")
        self.says(desk, "areas", "20 3 17")
        self.says(desk, "take 2 2", "0 0 3 2 5")
        self.says(desk, "take 1 4", "1 0 0 4 1")
        self.says(desk, "take 4 1 turns", "1 0 1 1 5")
        self.says(desk, "areas", "40 15 25")

    def test_take_turned(self):
        desk = told("sheet 2 5", "bench")
        self.refused(desk, "take 3 2", NoGlass, width=3, height=2)
        self.says(desk, "take 3 2 turns", "0 0 0 3 2")
        self.refused(desk, "take 3 2", NoGlass, width=3, height=2)
        self.says(desk, "areas", "10 6 4")

    def test_takes_as_a_bench_tells_them(self):
        chance = random.Random(261)
        for trial in range(6):
            sheets = [(chance.randint(3, 12), chance.randint(3, 12)) for place in range(chance.randint(1, 4))]
            desk = told(*[f"sheet {width} {height}" for width, height in sheets], "bench")
            bench = Bench(sheets)
            for pane in range(25):
                width, height, turns = chance.randint(1, 6), chance.randint(1, 6), chance.random() < 0.5
                line = f"take {width} {height}" + (" turns" if turns else "")
                try:
                    number, rectangle = bench.cut(width, height, turns)
                    self.says(desk, line, " ".join(str(part) for part in (number, *rectangle)))
                except NoGlass:
                    self.refused(desk, line, NoGlass, width=width, height=height)
                self.says(desk, "areas", " ".join(str(part) for part in bench.areas()))

    def test_a_bench_in_place_of_an_earlier_one(self):
        desk = told("sheet 3 3", "bench", "take 2 2")
        self.says(desk, "areas", "9 4 5")
        self.says(desk, "bench", "ok")
        self.says(desk, "areas", "0 0 0")
        self.says(desk, "take 1 1", "0 0 0 1 1")

    def test_no_bench_without_sheets(self):
        desk = Desk()
        self.refused(desk, "bench", TooMany, many=0)
        self.no_line(desk, "areas")

    def test_sixty_takes(self):
        desk = told("sheet 1 1", "bench")
        for number in range(60):
            self.says(desk, "take 1 1", f"{number} 0 0 1 1")
        self.refused(desk, "take 1 1", TooMany, many=61)
        self.refused(desk, "take 2 2", TooMany, many=61)
        self.refused(desk, "take 0 2", NoSide, side=0)
        self.says(desk, "areas", "60 60 0")
        self.says(desk, "bench", "ok")
        self.says(desk, "take 1 1", "0 0 0 1 1")

    def test_a_sheet_more(self):
        desk = told("panel abc ab", "kind 1 1 5", "want 1 1", "sheet 3 3", "bench", "take 1 1")
        self.says(desk, "sheet 2 2", "ok")
        self.no_line(desk, "areas")
        self.no_line(desk, "take 1 1")
        # All else stays.
        self.says(desk, "draw abc", "ab")
        self.says(desk, "worth 1 1", "5")
        self.says(desk, "plan", "4; 1 |1 -1 #0 . .")
        self.says(desk, "bench", "ok")
        self.says(desk, "take 3 3", "0 0 0 3 3")
        self.says(desk, "take 2 2", "1 0 0 2 2")
        self.says(desk, "areas", "13 13 0")

    def test_a_want_or_a_kind_more_leaves_the_bench(self):
        desk = told("sheet 3 3", "bench", "take 1 1")
        for line in ("want 1 1", "kind 1 1 1", "panel abc a", "plan", "worth 1 1", "cut abc 1 1 .", "numbered q 1 1 0"):
            desk.say(line)
            self.says(desk, "areas", "9 1 8")

    def test_clear(self):
        desk = told("panel abc ab", "panel w " + WHEEL, "kind 1 1 5", "want 9 9", "sheet 3 3", "bench", "take 1 1")
        self.says(desk, "clear", "ok")
        self.says(desk, "draw abc", "ab")
        self.says(desk, "tree w", "stuck 0 0 3 4")
        self.says(desk, "worth 3 3", "0")
        self.says(desk, "best 3 3", ".")
        self.says(desk, "plan", "0")
        self.no_line(desk, "areas")
        self.no_line(desk, "take 1 1")
        self.refused(desk, "bench", TooMany, many=0)
        # Kinds, wants and sheets are numbered from 0 again, and as many as at first.
        self.refused(desk, "kind 0 1 1", NoKind, place=0)
        self.refused(desk, "want 0 1", NoWant, place=0)
        self.refused(desk, "sheet 0 1", NoSheet, place=0)
        for line in ["kind 1 1 2"] * 8 + ["want 1 1"] * 6 + ["sheet 3 2"] * 4:
            self.says(desk, line, "ok")
        self.says(desk, "worth 1 1", "2")
        self.assertTrue(desk.say("plan").startswith("6; 0 "))
        self.says(desk, "clear", "ok")
        self.says(desk, "clear", "ok")

    def test_answers_are_texts(self):
        desk = told("panel abc ab/ab", "sheet 3 3", "bench")
        for line in OPEN + CLOSED:
            self.assertIs(type(desk.say(line)), str)


class TestForms(DeskCase):
    def ready(self):
        return told("panel abc ab/ab", "sheet 3 3", "bench")

    def test_each_form_is_one(self):
        for line in OPEN + CLOSED:
            self.assertIs(type(self.ready().say(line)), str)

    def test_no_text(self):
        desk = self.ready()
        for thing in NO_TEXTS:
            self.no_line(desk, thing)

    def test_a_word_more_or_fewer(self):
        desk = self.ready()
        for line in CLOSED:
            for more in (" x", " 1", " .", " abc", " turn", " turns turns", " Turns", " ok"):
                self.no_line(desk, line + more)
        for line in ("draw abc", "tree abc", "leads abc", "number abc", "numbered abc 2 2 3", "worth 2 2", "best 2 2",
                     "sheet 3 3", "plan", "bench", "areas", "clear", "kind 2 1 3 turns", "take 1 1 turns",
                     "panel abc ab"):
            self.no_line(desk, line + " turns")
        for line in ("panel", "panel abc", "draw", "tree", "leads", "cut", "cut abc", "cut abc 2", "cut abc 2 2",
                     "form", "form 2", "form 2 2", "number", "numbered", "numbered abc", "numbered abc 2",
                     "numbered abc 2 2", "kind", "kind 2", "kind 2 1", "kind 2 1 turns", "kind turns", "worth",
                     "worth 2", "best", "best 2", "want", "want 2", "want 2 turns", "want turns", "sheet", "sheet 3",
                     "take", "take 1", "take 1 turns", "take turns", "panel abc ab ab", "panel abc ab/ab 1"):
            self.no_line(desk, line)

    def test_blanks_tabs_and_line_ends(self):
        desk = self.ready()
        for line in CLOSED:
            for sign in (" ", "  ", "\t", "\n", "\r", "\v", "\f", "\0"):
                self.no_line(desk, line + sign)
        for line in OPEN + CLOSED:
            for sign in (" ", "  ", "\t", "\n", "\r", "\v", "\f", "\0"):
                self.no_line(desk, sign + line)
                # Within the verb.
                self.no_line(desk, line[:2] + sign + line[2:])
        for line in CLOSED:
            for place in [place for place, sign in enumerate(line) if sign == " "]:
                for sign in ("  ", "\t", "\n", " \t", "\t ", "", "   "):
                    self.no_line(desk, line[:place] + sign + line[place + 1:])
            for place in range(1, len(line)):
                for sign in ("\t", "\n", "\r"):
                    self.no_line(desk, line[:place] + sign + line[place:])
        for line in ("panel  abc ab", "panel abc  ab", "panel abc ab ", "panel abc  ", "panel\tabc ab", "panel abc\tab",
                     "panel abc\nab", "panel ab c ab", "panel  ab", "panel  ", "panel ", "cut  abc 2 2 .",
                     "cut abc  2 2 .", "cut abc 2  2 .", "cut abc 2\t2 .", "cut abc 2 2\t.", "form  2 2 .",
                     "form 2  2 .", "form 2 2\n.", "form 2 \n2 .", "form\t2 2 ."):
            self.no_line(desk, line)

    def test_great_letters(self):
        desk = self.ready()
        for line in OPEN + CLOSED:
            verb, blank, rest = line.partition(" ")
            self.no_line(desk, verb.upper() + blank + rest)
            self.no_line(desk, verb.capitalize() + blank + rest)
        for line in ("kind 2 1 3 TURNS", "want 2 1 Turns", "take 1 1 turnS", "draw Abc", "draw ABC", "panel abC ab"):
            self.no_line(desk, line)

    def test_another_verb(self):
        desk = self.ready()
        for line in ("", "x", "panels abc ab/ab", "pane abc ab/ab", "drawing abc", "stuck", "ok", "none", "kinds 2 1 3",
                     "sheets 3 3", "benches", "area", "offcuts", "turns", "cuts abc 2 2 .", "say plan", "N", "NAME",
                     "7", "plan;", "plan.", "#plan", "help", "clear;", "form", "numberd abc 2 2 3",
                     "panel NAME DRAWING", "draw NAME", "worth N N", "form N N TREE", "want N N turns"):
            self.no_line(desk, line)

    def test_no_names(self):
        desk = self.ready()
        for name in NO_NAMES:
            for line in ("panel {} ab/ab", "draw {}", "tree {}", "leads {}", "number {}", "cut {} 2 2 .",
                         "numbered {} 2 2 3"):
                self.no_line(desk, line.replace("{}", name))

    def test_no_numbers(self):
        desk = self.ready()
        for line in OPEN[1:] + CLOSED:
            words = line.split(" ")
            for place in [place for place, word in enumerate(words) if word.isdigit()]:
                for text in NO_NUMBERS:
                    self.no_line(desk, " ".join(words[:place] + [text] + words[place + 1:]))

    def test_numbers_of_nine_figures_are_looked_at_by_the_stages(self):
        desk = self.ready()
        for side in (0, 13, 100, 999, 1000, 123456789, 999999999):
            for line in (f"worth {side} 1", f"worth 1 {side}", f"best {side} 0", f"form {side} 2 .",
                         f"cut abc 2 {side} .", f"take {side} 1", f"take 1 {side} turns"):
                self.refused(desk, line, NoSide, side=side)
            self.refused(desk, f"kind {side} 1 1", NoKind, place=0)
            self.refused(desk, f"kind 1 {side} 1 turns", NoKind, place=0)
            self.refused(desk, f"want 1 {side}", NoWant, place=0)
            self.refused(desk, f"want {side} 1 turns", NoWant, place=0)
            self.refused(desk, f"sheet {side} 1", NoSheet, place=1)
            self.refused(desk, f"sheet 1 {side}", NoSheet, place=1)
        self.refused(desk, "numbered q 2 2 999999999", NoNumber, number=999999999)
        self.refused(desk, "numbered q 999999999 2 1", NoSide, side=999999999)
        self.says(desk, "kind 1 1 0", "ok")
        self.says(desk, "kind 1 1 999999999", "ok")

    def test_all_that_can_be_kept_at_the_edges(self):
        desk = self.ready()
        for line in ("kind 12 12 1", "kind 1 12 0 turns", "want 12 12", "want 1 12 turns", "sheet 12 12", "sheet 1 1"):
            self.says(desk, line, "ok")


class TestOrderOfRefusals(DeskCase):
    def test_no_line_ahead_of_no_name(self):
        desk = Desk()
        for line in ("draw abc x", "tree abc ", " leads abc", "number abc\n", "draw abcdefghi"):
            self.no_line(desk, line)

    def test_no_name(self):
        desk = told("panel abc ab")
        for line in ("draw {}", "tree {}", "leads {}", "number {}"):
            for name in ("abcd", "ab", "b", "zzzzzzzz", "draw"):
                self.refused(desk, line.replace("{}", name), NoName, name=name)
        self.says(desk, "draw abc", "ab")

    def test_a_panel_that_was_refused_does_not_stand(self):
        desk = Desk()
        self.refused(desk, "panel abc aba", Ragged, letter="a")
        self.refused(desk, "cut abc 2 2 |2 . .", NoCut, at=2)
        self.refused(desk, "numbered abc 2 2 8", NoNumber, number=8)
        self.refused(desk, "draw abc", NoName, name="abc")

    def test_no_tree_ahead_of_the_stages(self):
        desk = Desk()
        for start in ("form 0 13 ", "form 2 2 ", "cut abc 999999999 0 ", "cut abc 2 2 "):
            for words, place in (("x", 0), ("", 0), (" ", 0), (". ", 1), (" .", 0), ("|1 .", 2), ("|1  . .", 1),
                                 (". .", 1), ("|12 . .", 0), ("|0 . .", 0), ("-1 . #01", 2), ("|1 . . .", 3),
                                 (".\n", 0), ("\t.", 0), ("|1 .\t.", 1), ("TREE", 0), ("|1 . #1000", 2),
                                 (" ".join(["|1"] * 103), 103), (" ".join(["|1"] * 104), 103)):
                self.refused(desk, start + words, NoTree, place=place)
        self.refused(desk, "form 13 0 .", NoSide, side=13)
        self.refused(desk, "form 2 0 .", NoSide, side=0)
        self.refused(desk, "form 2 2 |1 -2 . . |1 . .", NoCut, at=2)
        self.refused(desk, "cut abc 13 0 .", NoSide, side=13)
        self.refused(desk, "cut abc 2 13 |9 . .", NoSide, side=13)
        self.refused(desk, "cut abc 2 2 -1 . |2 . .", NoCut, at=2)

    def test_drawings_are_looked_at_by_the_stage(self):
        desk = Desk()
        for text in ("", "/", "a/", "/a", "ab/c", "1", "a1", "a.b", "a\tb", "ab\n", "\n", "a" * 13, "/".join("a" * 13),
                     "DRAWING/", "a//b", "#0", "|1", "-"):
            self.refused(desk, "panel abc " + text, NoDrawing, drawing=text)
        self.refused(desk, "panel abc ab/ba", Ragged, letter="a")
        self.refused(desk, "panel abc zabca", Ragged, letter="a")
        self.says(desk, "panel abc ZYX", "ok")
        self.says(desk, "draw abc", "abc")

    def test_numbers_refused_by_the_stage(self):
        desk = told("panel abc abcde", "panel q a/b/c/d/e")
        self.refused(desk, "number abc", NoSide, side=5)
        self.refused(desk, "number q", NoSide, side=5)
        self.refused(desk, "numbered x 5 0 99", NoSide, side=5)
        self.refused(desk, "numbered x 4 0 99", NoSide, side=0)
        self.refused(desk, "numbered x 2 2 8", NoNumber, number=8)
        self.refused(desk, "numbered x 1 1 1", NoNumber, number=1)

    def test_no_bench(self):
        for desk in (Desk(), told("sheet 3 3"), told("sheet 3 3", "bench", "sheet 3 3"),
                     told("sheet 3 3", "bench", "clear"), told("sheet 3 3", "bench", "clear", "sheet 3 3")):
            # Behind the forms, and ahead of what a bench refuses.
            for line in ("take 1 1", "take 1 1 turns", "take 0 13", "take 12 12", "areas", "take 999999999 1 turns"):
                self.no_line(desk, line)
            for line in ("take", "take 1", "areas 1", "take 1 1 turn"):
                self.no_line(desk, line)


class TestOneTooMany(DeskCase):
    def test_kinds(self):
        desk = Desk()
        for place in range(8):
            self.refused(desk, "kind 0 1 1", NoKind, place=place)
            self.refused(desk, "kind 1 13 1 turns", NoKind, place=place)
            self.says(desk, f"kind 1 1 {place}", "ok")
        for line in ("kind 1 1 99", "kind 1 1 99 turns", "kind 0 1 1", "kind 99 99 99 turns"):
            self.refused(desk, line, TooMany, many=9)
        self.says(desk, "worth 1 1", "7")
        self.says(desk, "best 1 1", "#7")

    def test_wants(self):
        desk = told("sheet 2 3")
        for place in range(6):
            self.refused(desk, "want 0 1", NoWant, place=place)
            self.refused(desk, "want 1 13 turns", NoWant, place=place)
            self.says(desk, "want 1 1", "ok")
        for line in ("want 12 12", "want 12 12 turns", "want 0 1", "want 99 99"):
            self.refused(desk, line, TooMany, many=7)
        self.assertEqual(sorted(desk.say("plan").replace(";", "").split(" "))[:6], [f"#{mark}" for mark in range(6)])

    def test_sheets(self):
        desk = told("want 2 2")
        for place in range(4):
            self.refused(desk, "sheet 0 1", NoSheet, place=place)
            self.refused(desk, "sheet 1 13", NoSheet, place=place)
            self.says(desk, f"sheet {6 - place} 2", "ok")
        desk.say("bench")
        desk.say("take 3 2")
        for line in ("sheet 2 2", "sheet 0 1", "sheet 99 99"):
            self.refused(desk, line, TooMany, many=5)
            # The bench goes only where a sheet comes.
            self.says(desk, "areas", "6 6 0")
        self.says(desk, "plan", "6; 3 |2 #0 .")

    def test_a_sheet_that_is_none_leaves_the_bench(self):
        desk = told("sheet 3 3", "bench", "take 1 1")
        self.refused(desk, "sheet 3 0", NoSheet, place=1)
        self.no_line(desk, "sheet 3 3 turns")
        self.says(desk, "areas", "9 1 8")

    def test_a_bench_that_is_refused(self):
        desk = told("want 1 1")
        self.refused(desk, "bench", TooMany, many=0)
        self.no_line(desk, "areas")


class TestNothingChanges(DeskCase):
    LINES = (
        "panel abc ab/ab", "kind 2 2 9", "panel w " + WHEEL, "want 3 2 turns", "sheet 4 4", "want 2 2", "bench",
        "take 3 2", "kind 1 2 5 turns", "take 2 1", "cut q 3 2 |2 . -1 #0 .", "sheet 5 3", "want 1 4", "bench",
        "take 4 3 turns", "take 2 2", "numbered abc 3 3 100", "kind 1 1 1", "take 1 1", "panel q abc", "clear",
        "want 1 1", "kind 3 1 8", "sheet 2 2", "bench", "take 1 2", "panel w a/b")

    def test_what_is_refused_changes_nothing(self):
        desk, beside = Desk(), Desk()
        for line in self.LINES:
            for bad in REFUSED:
                self.assertIsInstance(answered(desk, bad), tuple, bad)
            self.assertEqual(desk.say(line), beside.say(line))
            for asked in ASKING:
                self.assertEqual(answered(desk, asked), answered(beside, asked), (line, asked))

    def test_each_refused_line_by_itself(self):
        for bad in REFUSED:
            desk = told(*self.LINES[:19])
            due = [answered(desk, asked) for asked in ASKING]
            self.assertIsInstance(answered(desk, bad), tuple, bad)
            self.assertEqual([answered(desk, asked) for asked in ASKING], due, bad)
            self.says(desk, "take 1 1", told(*self.LINES[:19]).say("take 1 1"))

    def test_asking_changes_nothing(self):
        desk, beside = Desk(), Desk()
        for line in self.LINES:
            for again in range(2):
                due = [answered(desk, asked) for asked in ASKING]
                self.assertEqual([answered(desk, asked) for asked in ASKING], due)
            self.assertEqual(desk.say(line), beside.say(line))

    def test_a_refusal_s_lists_are_the_askers_own(self):
        desk = told("panel w " + WHEEL)
        due = desk.say("leads w")
        with self.assertRaises(Stuck) as caught:
            desk.say("number w")
        caught.exception.leads.clear()
        caught.exception.breaks.clear()
        self.says(desk, "leads w", due)
        with self.assertRaises(Stuck) as caught:
            desk.say("number w")
        self.assertEqual(len(caught.exception.leads), 4)
        self.assertEqual(len(caught.exception.breaks), 5)

    def test_two_desks_beside_one_another(self):
        one, other = Desk(), Desk()
        for line in self.LINES[:20]:
            one.say(line)
        self.refused(other, "draw abc", NoName, name="abc")
        self.says(other, "worth 5 5", "0")
        self.says(other, "plan", "0")
        self.no_line(other, "areas")
        self.refused(other, "kind 0 1 1", NoKind, place=0)
        due = [answered(one, asked) for asked in ASKING]
        for line in self.LINES:
            other.say(line)
        self.assertEqual([answered(one, asked) for asked in ASKING], due)

    def test_in_good_time(self):
        begin = time.process_time()
        desk = told("kind 3 2 5 turns", "kind 5 4 21", "want 3 2 turns", "want 4 5", "want 2 2", "want 1 7 turns",
                    "want 6 3 turns", "want 3 3", "sheet 7 5", "sheet 12 4", "sheet 6 9", "sheet 5 5", "bench")
        for line in ("best 12 12", "worth 12 12", "plan", "numbered abc 4 4 50000", "number abc"):
            desk.say(line)
        self.assertLess(time.process_time() - begin, 10)

    def test_argument_by_name(self):
        self.assertEqual(Desk().say(line="plan"), "0")


if __name__ == "__main__":
    unittest.main()
