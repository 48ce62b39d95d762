"""The lines that a desk is told: their forms, and what is read out of them."""

from glazebench.cuttexts import number_in
from glazebench.errors import NoLine

SMALL_LETTERS = "abcdefghijklmnopqrstuvwxyz"
LONGEST_NAME = 8
MOST_FIGURES = 9

# In great letters what stands for other words; all else stands for itself.
FORMS = (
    "panel NAME DRAWING",
    "draw NAME",
    "tree NAME",
    "leads NAME",
    "cut NAME N N TREE",
    "form N N TREE",
    "number NAME",
    "numbered NAME N N N",
    "kind N N N",
    "kind N N N turns",
    "worth N N",
    "best N N",
    "want N N",
    "want N N turns",
    "sheet N N",
    "plan",
    "bench",
    "take N N",
    "take N N turns",
    "areas",
    "clear",
)


def is_name(text):
    return 1 <= len(text) <= LONGEST_NAME and all([sign in SMALL_LETTERS for sign in text])


def thing_in(text, asked):
    """What the text says where a form asks for this word; None where it can't stand there."""
    if asked == "N":
        return number_in(text, MOST_FIGURES)
    if asked == "NAME":
        good = is_name(text)
    elif asked == "DRAWING":
        good = " " not in text
    elif asked == "TREE":
        # Whatever its words are, they are looked at by those who read a tree.
        good = True
    else:
        good = text == asked
    return text if good else None


def things_by(form, line):
    words = form.split(" ")
    # The last word of a form gets all that is left, since a tree has blanks in it.
    texts = line.split(" ", len(words) - 1)
    if len(texts) < len(words):
        return None
    things = [thing_in(text, asked) for text, asked in zip(texts, words)]
    return None if None in things else things


def read_line(line):
    """The things that the words of a line say: its verb, then names, numbers (as numbers), drawings and trees."""
    if isinstance(line, str):
        for form in FORMS:
            things = things_by(form, line)
            if things is not None:
                return things
    raise NoLine(line)
