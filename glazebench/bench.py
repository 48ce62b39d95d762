"""A bench: panes cut one at a time, off the offcuts as long as one holds them, else off a new sheet."""

from glazebench.cuts import LEVEL, UPRIGHT, WHOLE, entries_by, first_piece, other_piece, tree_from
from glazebench.errors import NoGlass, TooMany
from glazebench.panels import area_of, check_sides, size_of
from glazebench.plans import check_sheets
from glazebench.stairs import ways_held

MOST_CUT = 60


def holds(piece, want):
    size = size_of(piece)
    return len(ways_held(want, size[0], size[1])) > 0


def cut_pane(entries, piece, want, number):
    """Cuts the want off the upper left corner of a piece, with this number as its mark; its rectangle is told."""
    size = size_of(piece)
    lies = ways_held(want, size[0], size[1])[0]
    for word, at, length in ((UPRIGHT, lies[0], size[0]), (LEVEL, lies[1], size[1])):
        if at < length:
            entries[piece] = (word, at)
            entries[other_piece(piece, word, at)] = (WHOLE, None)
            piece = first_piece(piece, word, at)
    entries[piece] = (WHOLE, number)
    return piece


def tree_in(entries, sheet):
    return tree_from(entries_by(sheet, lambda piece: entries[piece]))


class Bench:
    def __init__(self, sheets):
        check_sheets(sheets)
        self.stock = [(0, 0, height, width) for width, height in sheets]
        # For each sheet taken its number in the stock, and a dict from its pieces, those cut further too, to the
        # entries (word, number) that tell how they are cut, or their mark.
        self.taken = []

    def whole_pieces(self):
        """All pieces that are not cut further, as tuples (number of the sheet taken, piece, mark)."""
        found = []
        for number, sheet in enumerate(self.taken):
            found.extend([(number, piece, entry[1]) for piece, entry in sheet[1].items() if entry[0] == WHOLE])
        return found

    def panes_cut(self):
        return [piece for number, piece, mark in self.whole_pieces() if mark is not None]

    def offcuts(self):
        return sorted([(number, piece) for number, piece, mark in self.whole_pieces() if mark is None])

    def sheets(self):
        return [(number, tree_in(entries, self.stock[number])) for number, entries in self.taken]

    def areas(self):
        taken = sum([area_of(self.stock[number]) for number, entries in self.taken])
        cut = sum([area_of(piece) for piece in self.panes_cut()])
        left = sum([area_of(piece) for number, piece in self.offcuts()])
        return (taken, cut, left)

    def piece_for(self, want):
        """Where to cut a pane, as a tuple (number of the sheet taken, piece); a new sheet is taken where one must."""
        good = [(area_of(piece), number, piece) for number, piece in self.offcuts() if holds(piece, want)]
        if good:
            return min(good)[1:]
        new = [(area_of(piece), number) for number, piece in enumerate(self.stock) if holds(piece, want)]
        if not new:
            raise NoGlass(want[0], want[1])
        number = min(new)[1]
        self.taken.append((number, {self.stock[number]: (WHOLE, None)}))
        return (len(self.taken) - 1, self.stock[number])

    def cut(self, width, height, turns=False):
        check_sides(width, height)
        number = len(self.panes_cut())
        if number == MOST_CUT:
            raise TooMany(MOST_CUT + 1)
        want = (width, height, turns)
        place = self.piece_for(want)
        entries = self.taken[place[0]][1]
        return (place[0], cut_pane(entries, place[1], want, number))
