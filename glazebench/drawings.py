"""Drawings: panels told as rows of letters, and read from them."""

from glazebench.errors import NoDrawing, Ragged
from glazebench.panels import Panel, is_side

LETTERS = "abcdefghijklmnopqrstuvwxyzABCDEFGHIJKLMNOPQRSTUVWXYZ"


def drawing(panel):
    letters = {}
    for place, pane in enumerate(panel.panes()):
        letters[pane] = LETTERS[place]
    rows = []
    for row in range(panel.height):
        signs = [letters[panel.pane_at(row, column)] for column in range(panel.width)]
        rows.append("".join(signs))
    return "/".join(rows)


def is_row(text, length):
    return len(text) == length and all([sign in LETTERS for sign in text])


def is_drawing(thing):
    if not isinstance(thing, str):
        return False
    rows = thing.split("/")
    length = len(rows[0])
    if not is_side(len(rows)) or not is_side(length):
        return False
    return all([is_row(row, length) for row in rows])


def squares_by_letter(rows):
    # The letters come in the order of their first squares, and the dict keeps it.
    by_letter = {}
    for row, text in enumerate(rows):
        for column, letter in enumerate(text):
            by_letter.setdefault(letter, []).append((row, column))
    return by_letter


def pane_drawn(letter, squares):
    rows = [row for row, column in squares]
    columns = [column for row, column in squares]
    top = min(rows)
    left = min(columns)
    bottom = max(rows) + 1
    right = max(columns) + 1
    # The least rectangle around the squares has as many squares only where it has no other ones.
    if (bottom - top) * (right - left) != len(squares):
        raise Ragged(letter)
    return (top, left, bottom, right)


def read_drawing(text):
    if not is_drawing(text):
        raise NoDrawing(text)
    rows = text.split("/")
    panes = [pane_drawn(letter, squares) for letter, squares in squares_by_letter(rows).items()]
    return Panel(len(rows[0]), len(rows), panes)
