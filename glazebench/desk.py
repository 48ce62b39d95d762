"""A desk: it is told lines and answers each by a text.

Each answer below is given by a function of the desk and of the things that the line says, the verb ahead of them. What
a line may be refused for is asked ahead of every change, so that a line that is refused changes nothing.
"""

from glazebench.bench import Bench
from glazebench.cuts import panel_of
from glazebench.cuttexts import read_tree, written
from glazebench.drawings import drawing, read_drawing
from glazebench.errors import NoLine, NoName, Stuck
from glazebench.forms import form
from glazebench.lines import read_line
from glazebench.numbers import number_of, panel_by
from glazebench.plans import check_sheets, plan
from glazebench.rooms import tree_of
from glazebench.stairs import check_wants
from glazebench.worths import best, check_kinds, worths

OK = "ok"


def in_words(things):
    return " ".join([str(thing) for thing in things])


def in_parts(texts):
    return "; ".join(texts)


def turns_in(things):
    return things[-1] == "turns"


def panel_called(desk, name):
    if name not in desk.panels:
        raise NoName(name)
    return desk.panels[name]


def say_panel(desk, things):
    desk.panels[things[1]] = read_drawing(things[2])
    return OK


def say_draw(desk, things):
    return drawing(panel_called(desk, things[1]))


def say_tree(desk, things):
    panel = panel_called(desk, things[1])
    try:
        tree = tree_of(panel)
    except Stuck as refusal:
        return "stuck " + in_words(refusal.room)
    return written(tree)


def say_leads(desk, things):
    panel = panel_called(desk, things[1])
    try:
        tree_of(panel)
    except Stuck as refusal:
        return in_parts([in_words(lead) for lead in refusal.leads])
    return "none"


def say_cut(desk, things):
    tree = read_tree(things[4])
    desk.panels[things[1]] = panel_of(tree, things[2], things[3])
    return OK


def say_form(desk, things):
    tree = read_tree(things[3])
    return written(form(tree, things[1], things[2]))


def say_number(desk, things):
    return str(number_of(panel_called(desk, things[1])))


def say_numbered(desk, things):
    desk.panels[things[1]] = panel_by(things[2], things[3], things[4])
    return OK


def say_kind(desk, things):
    kinds = desk.kinds + [(things[1], things[2], things[3], turns_in(things))]
    check_kinds(kinds)
    desk.kinds = kinds
    return OK


def say_worth(desk, things):
    found = worths(things[1], things[2], desk.kinds)
    return str(found[(things[1], things[2])])


def say_best(desk, things):
    return written(best(things[1], things[2], desk.kinds))


def say_want(desk, things):
    wants = desk.wants + [(things[1], things[2], turns_in(things))]
    check_wants(wants)
    desk.wants = wants
    return OK


def say_sheet(desk, things):
    stock = desk.stock + [(things[1], things[2])]
    check_sheets(stock)
    desk.stock = stock
    desk.bench = None
    return OK


def say_plan(desk, things):
    # For no wants no sheet is taken, so none need be there.
    if not desk.wants:
        return "0"
    taken = plan(desk.wants, desk.stock)
    sizes = [desk.stock[number] for number, tree in taken]
    glass = sum([width * height for width, height in sizes])
    return in_parts([str(glass)] + [in_words((number, written(tree))) for number, tree in taken])


def say_bench(desk, things):
    desk.bench = Bench(desk.stock)
    return OK


def say_take(desk, things):
    cut = desk.bench.cut(things[1], things[2], turns_in(things))
    return in_words((cut[0],) + cut[1])


def say_areas(desk, things):
    return in_words(desk.bench.areas())


def say_clear(desk, things):
    desk.kinds = []
    desk.wants = []
    desk.stock = []
    desk.bench = None
    return OK


ANSWERS = {
    "panel": say_panel,
    "draw": say_draw,
    "tree": say_tree,
    "leads": say_leads,
    "cut": say_cut,
    "form": say_form,
    "number": say_number,
    "numbered": say_numbered,
    "kind": say_kind,
    "worth": say_worth,
    "best": say_best,
    "want": say_want,
    "sheet": say_sheet,
    "plan": say_plan,
    "bench": say_bench,
    "take": say_take,
    "areas": say_areas,
    "clear": say_clear,
}


class Desk:
    def __init__(self):
        self.panels = {}
        self.kinds = []
        self.wants = []
        self.stock = []
        self.bench = None

    def say(self, line):
        things = read_line(line)
        verb = things[0]
        if self.bench is None and verb in ("take", "areas"):
            raise NoLine(line)
        answer = ANSWERS[verb]
        return answer(self, things)
