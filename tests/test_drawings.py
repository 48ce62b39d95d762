"""Drawings told and read [2, 6, the interface]."""

import itertools
import unittest

from glazebench.drawings import drawing, read_drawing
from glazebench.errors import GlassError, NoDrawing, Ragged
from glazebench.panels import Panel

FIFTY_TWO_DRAWN = "abcdefghijkl/mnopqrstuvwx/yzABCDEFGHIJ/KLMNOPQRSTUV/WWWXXXYYYZZZ"
FIFTY_TWO = [(row, column, row + 1, column + 1) for row in range(4) for column in range(12)]
FIFTY_TWO += [(4, column, 5, column + 3) for column in (0, 3, 6, 9)]


def first_letters(text):
    letters = []
    for sign in text.replace("/", ""):
        if sign not in letters:
            letters.append(sign)
    return letters


def squares_by_letter(text):
    found = {}
    for row, signs in enumerate(text.split("/")):
        for column, sign in enumerate(signs):
            found.setdefault(sign, set()).add((row, column))
    return found


def is_box(squares):
    rows = {row for row, column in squares}
    columns = {column for row, column in squares}
    whole_rows = rows == set(range(min(rows), max(rows) + 1))
    whole_columns = columns == set(range(min(columns), max(columns) + 1))
    return whole_rows and whole_columns and squares == set(itertools.product(rows, columns))


class TestDrawing(unittest.TestCase):
    def test_the_one_of_the_document(self):
        panel = Panel(3, 2, [(0, 2, 2, 3), (1, 0, 2, 2), (0, 0, 1, 2)])
        self.assertEqual(drawing(panel), "aab/ccb")

    def test_one_pane(self):
        self.assertEqual(drawing(Panel(1, 1, [(0, 0, 1, 1)])), "a")
        self.assertEqual(drawing(Panel(3, 1, [(0, 0, 1, 3)])), "aaa")
        self.assertEqual(drawing(Panel(1, 3, [(0, 0, 3, 1)])), "a/a/a")
        self.assertEqual(drawing(Panel(12, 12, [(0, 0, 12, 12)])), "/".join(["a" * 12] * 12))

    def test_letters_in_their_order_up_to_fifty_two(self):
        self.assertEqual(drawing(Panel(12, 5, FIFTY_TWO)), FIFTY_TWO_DRAWN)
        self.assertEqual(drawing(Panel(12, 5, FIFTY_TWO[::-1])), FIFTY_TWO_DRAWN)

    def test_the_letters_behind_z(self):
        units = [(row, column, row + 1, column + 1) for row in range(3) for column in range(9)]
        self.assertEqual(drawing(Panel(9, 3, units)), "abcdefghi/jklmnopqr/stuvwxyzA")

    def test_the_panel_stays_as_it_was(self):
        panel = Panel(12, 5, FIFTY_TWO)
        drawing(panel)
        self.assertEqual((panel.width, panel.height, panel.panes()), (12, 5, FIFTY_TWO))


class TestReadDrawing(unittest.TestCase):
    def check_read(self, text, width, height, panes):
        panel = read_drawing(text)
        self.assertIsInstance(panel, Panel)
        self.assertEqual((panel.width, panel.height, panel.panes()), (width, height, panes))

    def test_the_one_of_the_document(self):
        self.check_read("aab/ccb", 3, 2, [(0, 0, 1, 2), (0, 2, 2, 3), (1, 0, 2, 2)])

    def test_other_letters(self):
        for text in ("zzA/mmA", "bba/cca", "AAa/BBa", "ZZz/aaz"):
            self.check_read(text, 3, 2, [(0, 0, 1, 2), (0, 2, 2, 3), (1, 0, 2, 2)])
            self.assertEqual(drawing(read_drawing(text)), "aab/ccb")

    def test_a_small_and_a_great_letter_are_two(self):
        self.check_read("aA", 2, 1, [(0, 0, 1, 1), (0, 1, 1, 2)])

    def test_least_and_greatest(self):
        self.check_read("Q", 1, 1, [(0, 0, 1, 1)])
        self.check_read("b" * 12, 12, 1, [(0, 0, 1, 12)])
        self.check_read("/".join("b" * 12), 1, 12, [(0, 0, 12, 1)])
        self.check_read("/".join(["b" * 12] * 12), 12, 12, [(0, 0, 12, 12)])

    def test_every_letter(self):
        for letter in "abcdefghijklmnopqrstuvwxyzABCDEFGHIJKLMNOPQRSTUVWXYZ":
            self.check_read(letter, 1, 1, [(0, 0, 1, 1)])

    def test_fifty_two_panes_and_back(self):
        self.check_read(FIFTY_TWO_DRAWN, 12, 5, FIFTY_TWO)
        self.check_read(FIFTY_TWO_DRAWN.swapcase(), 12, 5, FIFTY_TWO)
        self.assertEqual(drawing(read_drawing(FIFTY_TWO_DRAWN)), FIFTY_TWO_DRAWN)
        self.assertEqual(drawing(read_drawing(FIFTY_TWO_DRAWN.swapcase())), FIFTY_TWO_DRAWN)

    def test_a_new_panel_each_time(self):
        one = read_drawing("aab/ccb")
        one.panes().clear()
        self.assertIsNot(one, read_drawing("aab/ccb"))
        self.check_read("aab/ccb", 3, 2, one.panes())


class TestNoDrawing(unittest.TestCase):
    def refused(self, thing):
        with self.assertRaises(GlassError) as caught:
            read_drawing(thing)
        self.assertIs(type(caught.exception), NoDrawing)
        self.assertIs(caught.exception.drawing, thing)

    def test_what_is_no_text(self):
        endless = []
        endless.append(endless)
        for thing in (None, True, False, 0, 3, 10 ** 5000, 1.5, b"aab/ccb", ["aab", "ccb"], [], ("a",), {}, {"a": 1},
                      {"a"}, object(), str, endless, Panel(1, 1, [(0, 0, 1, 1)])):
            self.refused(thing)

    def test_rows_without_letters(self):
        for text in ("", "/", "//", "a/", "/a", "a//a", "aab/ccb/", "/aab/ccb", "aab//ccb"):
            self.refused(text)

    def test_rows_of_unlike_length(self):
        for text in ("ab/a", "a/ab", "aab/cc", "aa/ccb", "ab/ab/a", "a/ab/a"):
            self.refused(text)

    def test_too_many_rows(self):
        self.refused("/".join("a" * 13))
        self.refused("/".join(["ab"] * 13))
        self.refused("/".join("a" * 1999))

    def test_too_many_letters_in_a_row(self):
        self.refused("a" * 13)
        self.refused("a" * 12 + "/" + "a" * 13)
        self.refused("a" * 13 + "/" + "a" * 13)
        self.refused("a" * 144)

    def test_every_other_sign(self):
        for number in range(128):
            sign = chr(number)
            if not sign.isalpha() and sign != "/":
                for text in (sign, sign + "a", "a" + sign, "aab/cc" + sign, sign + "ab/ccb", "aab/ccb" + sign):
                    self.refused(text)

    def test_signs_beside_the_letters(self):
        for text in ("aab/cc1", "aa /ccb", " aab/ccb", "aab/ccb ", "aab/ccb\n", "aab\n/ccb", "aab\\ccb", "aab ccb",
                     "aab/ccb\r\n", "aab/ccb\0", "@", "[", "`", "{", "-", ".", "\u00e9", "a/\u00df"):
            self.refused(text)

    def test_ahead_of_ragged(self):
        for text in ("aba/1bb", "ab/ba/", "ab/ba/a", "aba\n", "/".join(["aba"] * 13), "aba" + "c" * 10):
            self.refused(text)


class TestRagged(unittest.TestCase):
    def refused(self, text, letter):
        with self.assertRaises(GlassError) as caught:
            read_drawing(text)
        self.assertIs(type(caught.exception), Ragged, text)
        self.assertEqual(caught.exception.letter, letter, text)

    def test_a_letter_in_two_places(self):
        self.refused("aba", "a")
        self.refused("a/b/a", "a")
        self.refused("ab/ca", "a")
        self.refused("ab/bc", "b")

    def test_a_letter_with_a_corner_lacking(self):
        self.refused("aa/ab", "a")
        self.refused("aa/ba", "a")
        self.refused("ab/aa", "a")
        self.refused("ba/aa", "a")

    def test_a_letter_around_another_one(self):
        self.refused("aaa/aba/aaa", "a")

    def test_the_first_such_letter_is_by_first_squares(self):
        self.refused("xbab/xaax", "x")
        self.refused("cbab/caaa", "b")
        self.refused("zab/zba", "a")
        self.refused("zba/zab", "b")
        self.refused("cZb/cbZ", "Z")

    def test_every_text_of_some_letters(self):
        for signs in itertools.product("bAc", repeat=6):
            self.check_text("".join(signs[:3]) + "/" + "".join(signs[3:]))
        for signs in itertools.product("ba", repeat=9):
            self.check_text("/".join(["".join(signs[place:place + 3]) for place in (0, 3, 6)]))

    def check_text(self, text):
        squares = squares_by_letter(text)
        ragged = [letter for letter in first_letters(text) if not is_box(squares[letter])]
        if ragged:
            self.refused(text, ragged[0])
            return
        panel = read_drawing(text)
        for letter, those in squares.items():
            panes = {panel.pane_at(row, column) for row, column in those}
            self.assertEqual(len(panes), 1, text)
        self.assertEqual(len(panel.panes()), len(squares), text)
        renamed = dict(zip(first_letters(text), "abc"), **{"/": "/"})
        self.assertEqual(drawing(panel), "".join([renamed[sign] for sign in text]))


if __name__ == "__main__":
    unittest.main()
