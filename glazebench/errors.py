"""The refusals of Glazebench, each a class of its own under GlassError.

A refusal keeps what it was made with just as it was handed in, and does nothing else with it:
a refusal is due whatever was handed in, and of some things even the writing out fails.
"""


class GlassError(ValueError):
    pass


class NoSide(GlassError):
    def __init__(self, side):
        self.side = side


class TooMany(GlassError):
    def __init__(self, many):
        self.many = many


class NoPane(GlassError):
    def __init__(self, place):
        self.place = place


class Overlap(GlassError):
    def __init__(self, place):
        self.place = place


class Bare(GlassError):
    def __init__(self, square):
        self.square = square


class NoDrawing(GlassError):
    def __init__(self, drawing):
        self.drawing = drawing


class Ragged(GlassError):
    def __init__(self, letter):
        self.letter = letter


class NoCut(GlassError):
    def __init__(self, at):
        self.at = at


class NoTree(GlassError):
    def __init__(self, place):
        self.place = place


class NoBlock(GlassError):
    def __init__(self, block):
        self.block = block


class Stuck(GlassError):
    def __init__(self, room, breaks, leads):
        self.room = room
        self.breaks = breaks
        self.leads = leads


class NoMove(GlassError):
    def __init__(self, steps):
        self.steps = steps


class Unlike(GlassError):
    pass


class NoNumber(GlassError):
    def __init__(self, number):
        self.number = number


class NoKind(GlassError):
    def __init__(self, place):
        self.place = place


class Unfit(GlassError):
    def __init__(self, piece):
        self.piece = piece


class NoFlaw(GlassError):
    def __init__(self, place):
        self.place = place


class NoWant(GlassError):
    def __init__(self, place):
        self.place = place


class NoSheet(GlassError):
    def __init__(self, place):
        self.place = place


class NoSize(GlassError):
    def __init__(self, size):
        self.size = size


class NoPlan(GlassError):
    def __init__(self, want):
        self.want = want


class NoGlass(GlassError):
    def __init__(self, width, height):
        self.width = width
        self.height = height


class NoLine(GlassError):
    def __init__(self, line):
        self.line = line


class NoName(GlassError):
    def __init__(self, name):
        self.name = name
