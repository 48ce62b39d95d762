"""Trees written in words and read from them [2, 7, 9, the interface]."""

import itertools
import unittest

from glazebench.cuts import Level, Tree, Upright, Whole
from glazebench.cuttexts import read_tree, written
from glazebench.errors import GlassError, NoTree

FIGURES = "0123456789"


class Touchy:
    """A thing that fails wherever it is compared, counted or written out."""

    def fail(self, *things):
        raise RuntimeError("touched")

    __eq__ = __lt__ = __le__ = __gt__ = __ge__ = fail
    __len__ = __iter__ = __getitem__ = __int__ = __index__ = __bool__ = __repr__ = fail
    __hash__ = None


ENDLESS = []
ENDLESS.append(ENDLESS)

NO_TEXTS = [None, True, False, 0, 3, 10 ** 5000, 0.5, b"", b".", [], ["."], [".", "."], (), (".",), {}, {".": 1}, set(),
            object(), str, len, Whole(), Upright(1, Whole(), Whole()), Touchy(), ENDLESS]


def down_first(kind, many):
    """So many leaves, all cuts in the first parts."""
    tree = Whole()
    for count in range(many - 1):
        tree = kind(1, tree, Whole())
    return tree


def down_other(kind, many):
    """So many leaves, all cuts in the other parts."""
    tree = Whole()
    for count in range(many - 1):
        tree = kind(1, Whole(), tree)
    return tree


def parts(tree):
    if isinstance(tree, Whole):
        return [tree]
    return [tree] + parts(tree.first) + parts(tree.other)


def words_told(tree):
    """Point 9 told once more."""
    if type(tree) is Whole:
        return ["." if tree.mark is None else "#" + str(tree.mark)]
    sign = {Upright: "|", Level: "-"}[type(tree)]
    return [sign + str(tree.at)] + words_told(tree.first) + words_told(tree.other)


class TestWritten(unittest.TestCase):
    def test_the_one_of_the_document(self):
        tree = Upright(2, Whole(), Level(1, Whole(0), Whole()))
        self.assertEqual(written(tree), "|2 . -1 #0 .")
        self.assertEqual(written(tree=tree), "|2 . -1 #0 .")

    def test_whole_pieces(self):
        self.assertEqual(written(Whole()), ".")
        self.assertEqual(written(Whole(0)), "#0")
        self.assertEqual(written(Whole(10)), "#10")
        self.assertEqual(written(Whole(999)), "#999")

    def test_every_cut(self):
        for at in range(1, 12):
            self.assertEqual(written(Upright(at, Whole(), Whole(1))), f"|{at} . #1")
            self.assertEqual(written(Level(at, Whole(2), Whole())), f"-{at} #2 .")

    def test_the_first_part_ahead_of_the_other_one(self):
        tree = Level(3, Upright(1, Whole(1), Whole(2)), Upright(2, Whole(3), Whole(4)))
        self.assertEqual(written(tree), "-3 |1 #1 #2 |2 #3 #4")

    def test_one_object_twice(self):
        part = Level(1, Whole(7), Whole())
        self.assertEqual(written(Upright(2, part, part)), "|2 -1 #7 . -1 #7 .")

    def test_trees_of_fifty_two_and_of_144_leaves(self):
        for many in (52, 144):
            self.assertEqual(written(down_first(Upright, many)), "|1 " * (many - 1) + ". " * (many - 1) + ".")
            self.assertEqual(written(down_other(Level, many)), "-1 . " * (many - 1) + ".")
        column = down_other(Level, 12)
        tree = column
        for count in range(11):
            tree = Upright(1, column, tree)
        due = " ".join(["|1 " + "-1 . " * 11 + "."] * 11 + ["-1 . " * 11 + "."])
        self.assertEqual(written(tree), due)

    def test_the_tree_stays_as_it_was(self):
        first, other = Whole(), Level(1, Whole(0), Whole())
        tree = Upright(2, first, other)
        written(tree)
        self.assertIs(tree.first, first)
        self.assertIs(tree.other, other)
        self.assertEqual(words_told(tree), ["|2", ".", "-1", "#0", "."])


class ReadCase(unittest.TestCase):
    def check_read(self, text, due):
        tree = read_tree(text)
        self.assertIsInstance(tree, Tree)
        self.assertEqual(words_told(tree), words_told(due), text)

    def refused(self, text, place):
        with self.assertRaises(GlassError) as caught:
            read_tree(text)
        self.assertIs(type(caught.exception), NoTree)
        self.assertEqual((caught.exception.place, type(caught.exception.place)), (place, int), text)


class TestReadTree(ReadCase):
    def test_the_one_of_the_document(self):
        self.check_read("|2 . -1 #0 .", Upright(2, Whole(), Level(1, Whole(0), Whole())))
        self.assertEqual(written(read_tree(text="|2 . -1 #0 .")), "|2 . -1 #0 .")

    def test_classes_and_values(self):
        tree = read_tree("|2 . -1 #0 #31")
        self.assertIs(type(tree), Upright)
        self.assertIs(type(tree.first), Whole)
        self.assertIs(type(tree.other), Level)
        self.assertEqual((tree.at, tree.other.at, tree.other.first.mark, tree.other.other.mark), (2, 1, 0, 31))
        self.assertIsNone(tree.first.mark)
        self.assertIs(type(tree.at), int)
        self.assertIs(type(tree.other.first.mark), int)

    def test_every_mark(self):
        self.check_read(".", Whole())
        for mark in range(1000):
            tree = read_tree(f"#{mark}")
            self.assertEqual((type(tree), tree.mark), (Whole, mark))

    def test_every_cut(self):
        for at in range(1, 12):
            self.check_read(f"|{at} . #1", Upright(at, Whole(), Whole(1)))
            self.check_read(f"-{at} #2 .", Level(at, Whole(2), Whole()))

    def test_trees_that_fit_no_sheet_are_read_too(self):
        self.check_read("|3 |5 . . .", Upright(3, Upright(5, Whole(), Whole()), Whole()))

    def test_fifty_two_leaves_with_all_cuts_on_one_side(self):
        for tree in (down_first(Upright, 52), down_first(Level, 52), down_other(Upright, 52), down_other(Level, 52)):
            text = " ".join(words_told(tree))
            self.assertEqual(len(text.split(" ")), 103)
            self.check_read(text, tree)
            self.assertEqual(written(read_tree(text)), text)
            self.assertEqual((read_tree(text).leaves(), read_tree(text).depth()), (52, 51))

    def test_the_longest_text_that_is_a_tree(self):
        text = "|11 " * 51 + "#999 " * 51 + "#999"
        self.assertEqual(written(read_tree(text)), text)

    def test_a_new_tree_each_time(self):
        one, other = read_tree("|2 . -1 #0 ."), read_tree("|2 . -1 #0 .")
        self.assertEqual(len({id(part) for part in parts(one) + parts(other)}), 10)
        self.assertIsNot(read_tree("."), read_tree("."))

    def test_every_text_of_some_words(self):
        for many in range(1, 6):
            for words in itertools.product((".", "#0", "|1", "-11", "x"), repeat=many):
                self.check_words(list(words))

    def check_words(self, words):
        place = fault(words)
        if place is None:
            self.assertEqual(words_told(read_tree(" ".join(words))), words)
        else:
            self.refused(" ".join(words), place)


def end_of(words, place):
    """Where the tree that begins at this place ends; or, negative and less 1, where it is at fault."""
    if place == len(words) or words[place] == "x":
        return -place - 1
    if words[place] in (".", "#0"):
        return place + 1
    middle = end_of(words, place + 1)
    return middle if middle < 0 else end_of(words, middle)


def fault(words):
    end = end_of(words, 0)
    if end < 0:
        return -end - 1
    return None if end == len(words) else end


class TestNoTree(ReadCase):
    def bad_word(self, word):
        """Refused at the begin, in the middle and at the end, and ahead of all that is behind it."""
        self.refused(word, 0)
        self.refused(f"{word} . .", 0)
        self.refused(f"|1 {word} .", 1)
        self.refused(f"|1 . {word}", 2)
        self.refused(f"|1 -1 . {word} .", 3)
        self.refused(f"|1 {word}", 1)
        self.refused(f"|1 {word} . . . .", 1)
        self.refused(f"|1 {word} {word}", 1)

    def test_what_is_no_text(self):
        for thing in NO_TEXTS:
            self.refused(thing, 0)

    def test_words_of_no_kind(self):
        for word in ("x", "a", "0", "1", "12", "..", ".1", ".0", "1.", "#", "|", "-", "##1", "||1", "--1", "#1#", "|1|",
                     "|#1", "#|1", "#.", "|.", "-.", "|1.", "-1-", "|x", "#x", "+1", "/1", "!1", "_1", "None", "#None",
                     "|1,", "#1,2", "#1.0", "|1.0", "#0x1", "#1e1", "|a", "#a", "#-", "\\1"):
            self.bad_word(word)

    def test_cuts_beyond(self):
        for number in ("0", "12", "13", "99", "100", "110", "111", "999", "1000", "1" * 300):
            self.bad_word("|" + number)
            self.bad_word("-" + number)

    def test_marks_beyond(self):
        for number in ("1000", "1234", "9999", "10000", "1" * 300):
            self.bad_word("#" + number)

    def test_a_0_ahead_of_another_figure(self):
        for sign in "|-#":
            for number in ("00", "01", "001", "05", "010", "011", "000", "0999", "0000"):
                self.bad_word(sign + number)

    def test_a_sign_among_the_figures(self):
        for sign in "|-#":
            for number in ("-1", "+1", "-0", "+0", "--1", "1-", "1+", "1+1", "-11", "~1"):
                self.bad_word(sign + number)

    def test_what_python_takes_for_a_blank_or_a_figure_among_the_figures(self):
        for sign in "|-#":
            for odd in ("\t", "\n", "\r", "\v", "\f", "\0", "\x1c", "\x1f", "_"):
                for number in (odd, odd + "1", "1" + odd, "1" + odd + "1", odd + "1" + odd):
                    self.bad_word(sign + number)
                self.bad_word(odd + sign + "1")
        for odd in ("\t", "\n", "\r", "\r\n", "_"):
            for word in (odd, "." + odd, odd + "."):
                self.bad_word(word)

    def test_no_other_sign_parts_words(self):
        for odd in ("\t", "\n", "\r\n", ",", "_", "/"):
            self.refused(f"|1{odd}.{odd}.", 0)
            self.refused(f"|1 .{odd}.", 1)
            self.refused(f"|1 . .{odd}", 2)

    def test_every_word_of_two_signs(self):
        for first, second in itertools.product(map(chr, range(128)), repeat=2):
            word = first + second
            if " " in word:
                continue
            if first == "#" and second in FIGURES:
                self.check_read(word, Whole(int(second)))
            elif first in "|-" and second in "123456789":
                self.refused(word, 1)
            else:
                self.refused(word, 0)

    def test_every_word_of_one_sign(self):
        for number in range(128):
            if chr(number) not in ". ":
                self.refused(chr(number), 0)

    def test_a_word_without_signs(self):
        self.bad_word("")
        self.refused("", 0)
        self.refused(" ", 0)
        self.refused("  ", 0)
        self.refused(" .", 0)
        self.refused(" |1 . .", 0)
        self.refused("|1  . .", 1)
        self.refused("|1 .  .", 2)
        self.refused("|1 . ", 2)
        self.refused("|1 ", 1)
        self.refused(". ", 1)
        self.refused("|1 . . ", 3)
        self.refused("|1 . .  ", 3)
        self.refused("|2 . -1 #0 . ", 5)

    def test_a_word_behind_the_end(self):
        self.refused(". .", 1)
        self.refused(". x", 1)
        self.refused(". . x", 1)
        self.refused("#0 |1 . .", 1)
        self.refused("|1 . . .", 3)
        self.refused("|1 . . -1", 3)
        self.refused("|2 . -1 #0 . #0", 5)
        self.refused("|1 . . . x . .", 3)

    def test_words_that_lack(self):
        self.refused("|1", 1)
        self.refused("-11", 1)
        self.refused("|1 .", 2)
        self.refused("|1 -1 . .", 4)
        self.refused("|1 . -1 .", 4)
        self.refused("|1 |1 |1", 3)
        self.refused("|2 . -1 #0", 4)


class TestManyWords(ReadCase):
    def setUp(self):
        self.words = words_told(down_other(Upright, 52))

    def refused_words(self, words, place):
        self.refused(" ".join(words), place)

    def test_103_words(self):
        self.check_read(" ".join(self.words), down_other(Upright, 52))

    def test_103_words_that_lack_more(self):
        self.refused_words(["|1"] * 103, 103)
        self.refused_words(["-1", "."] * 51 + ["-1"], 103)
        self.refused_words(self.words[:-1], 102)

    def test_104_words_and_more(self):
        self.refused_words(self.words + ["."], 103)
        self.refused_words(self.words + ["x"], 103)
        self.refused_words(self.words + [""], 103)
        self.refused_words(["|1"] * 104, 103)
        self.refused_words(["|1"] * 103 + ["x"], 103)
        self.refused_words(["|1"] * 800, 103)
        self.refused_words(["|1"] * 103 + ["x"] * 50, 103)

    def test_a_tree_of_105_words(self):
        self.refused_words(words_told(down_other(Upright, 53)), 103)
        self.refused_words(words_told(down_first(Level, 53)), 103)
        self.refused_words(words_told(down_first(Level, 144)), 103)

    def test_a_fault_ahead_of_the_word_103(self):
        for place in (0, 1, 50, 101, 102):
            for bad in ("x", "", "|12", "#1000"):
                words = ["|1"] * 110
                words[place] = bad
                self.refused_words(words, place)
        self.refused_words(["|1", ".", "."] + ["."] * 110, 3)
        self.refused_words(words_told(down_other(Upright, 51)) + ["|1"] * 50, 101)

    def test_a_fault_behind_the_word_103(self):
        for place in (103, 104, 109):
            words = ["|1"] * 110
            words[place] = "x"
            self.refused_words(words, 103)


if __name__ == "__main__":
    unittest.main()
