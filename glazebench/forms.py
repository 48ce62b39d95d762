"""The form of a tree: the one way of cutting its pieces that stands for all others."""

from glazebench.cuts import pieces, tree_from
from glazebench.rooms import cut_up


def form(tree, width, height):
    # What a tree has cut never has a room.
    return tree_from(cut_up((0, 0, height, width), pieces(tree, width, height)))


def alike(tree, other, width, height):
    return pieces(tree, width, height) == pieces(other, width, height)
