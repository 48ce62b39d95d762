"""Trees in words: written, and read from them."""

from glazebench.cuts import LEVEL, UPRIGHT, WHOLE, entries_of, tree_from
from glazebench.errors import NoTree
from glazebench.panels import LONGEST_SIDE

FIGURES = "0123456789"
# A mark is at most 999.
MARK_FIGURES = 3
# Fifty-two whole pieces and the fifty-one cuts between them.
MOST_WORDS = 103


def word_of(kind, number):
    if kind == WHOLE:
        return "." if number is None else f"#{number}"
    return f"|{number}" if kind == UPRIGHT else f"-{number}"


def written(tree):
    return " ".join([word_of(kind, number) for kind, number in entries_of(tree)])


def number_in(text, most):
    """The number that is written by at most so many figures; None where none is."""
    if not 1 <= len(text) <= most or not all([sign in FIGURES for sign in text]):
        return None
    if text[0] == "0" and text != "0":
        return None
    return int(text)


def entry_in(word):
    if word == ".":
        return (WHOLE, None)
    number = number_in(word[1:], MARK_FIGURES)
    if number is None:
        return None
    if word[0] == "#":
        return (WHOLE, number)
    # Even in the longest piece a cut leaves a column or a row on both its sides.
    if word[0] not in "|-" or not 1 <= number < LONGEST_SIDE:
        return None
    return (UPRIGHT if word[0] == "|" else LEVEL, number)


def entries_in(words):
    entries = []
    lacking = 1
    for place, word in enumerate(words):
        entry = entry_in(word)
        if lacking == 0 or place == MOST_WORDS or entry is None:
            raise NoTree(place)
        entries.append(entry)
        # A whole piece is one of those that lack; a cut is one too, and asks for two more.
        lacking += -1 if entry[0] == WHOLE else 1
    if lacking > 0:
        raise NoTree(len(words))
    return entries


def read_tree(text):
    if not isinstance(text, str):
        raise NoTree(0)
    return tree_from(entries_in(text.split(" ")))
