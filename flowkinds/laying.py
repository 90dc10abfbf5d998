"""Definitions laid on boards."""

from flowkinds.boards import Board, CallUse, CaseUse, NumUse, RowUse, TakeUse
from flowkinds.forms import stands_in
from flowkinds.papers import pasted


def laid(program, homes, which, papers=None):
    laying = Laying(program, homes, papers)
    laying.board.rooted(laying.lay_definition(which))
    return laying.board


# Nothing is ever laid anew within its own laying. So the last point that a B
# got (held) or that a definition got (starts) is the one that a name means.
class Laying:
    def __init__(self, program, homes, papers):
        self.program = program
        self.homes = homes
        self.papers = papers
        self.board = Board()
        self.held = {}
        self.starts = {}

    def lay_definition(self, number):
        root = self.program.roots[number]
        start = self.board.point(root)
        self.starts[number] = start
        self.board.flow(self.lay(root), start)
        return start

    # A weight counts each EXPR that is laid, so its bound keeps these calls
    # from going deep.
    def lay(self, place):
        row = self.program.rows[place]
        own = self.board.point(place)
        LAYERS[row[0]](self, row, place, own)
        return own


def lay_num(laying, row, place, own):
    laying.board.make("num", (), own, place)


def lay_name(laying, row, place, own):
    laying.board.flow(meant_point(laying, place), own)


def meant_point(laying, place):
    home = laying.homes[place]
    if home[0] == "let":
        return laying.lay(home[1])
    if home[0] == "def":
        return definition_point(laying, place, home[1])
    return laying.held[home[1]]


def definition_point(laying, place, number):
    if stands_in(laying.program, place, number):
        return laying.starts[number]
    if laying.papers is None:
        return laying.lay_definition(number)
    return pasted(laying.board, laying.papers[number], place)


def lay_fn(laying, row, place, own):
    argument = laying.board.point(place)
    laying.held[row[2]] = argument
    answer = laying.lay(row[2])
    laying.board.make("fn", (argument, answer), own, place)


def lay_call(laying, row, place, own):
    called = laying.lay(row[1])
    argument = laying.lay(row[2])
    laying.board.use(CallUse(called, place, 0, argument, own))


def lay_let(laying, row, place, own):
    laying.lay(row[2])
    laying.board.flow(laying.lay(row[3]), own)


def lay_rec(laying, row, place, own):
    fields = []
    for field in row[1]:
        fields.append((field[0], laying.lay(field[1])))
    laying.board.make("rec", tuple(fields), own, place)


def lay_get(laying, row, place, own):
    record = laying.lay(row[1])
    laying.board.use(TakeUse(record, place, 0, ((row[2], own),)))


def lay_tag(laying, row, place, own):
    tagged = laying.lay(row[2])
    laying.board.make("tag", (row[1], tagged), own, place)


def lay_case(laying, row, place, own):
    subject = laying.lay(row[1])
    arms = []
    for arm in row[2]:
        tagged = laying.board.point(place)
        laying.held[arm[2]] = tagged
        laying.board.flow(laying.lay(arm[2]), own)
        arms.append((arm[0], tagged))
    laying.board.use(CaseUse(subject, place, 0, tuple(arms)))


def lay_row(laying, row, place, own):
    things = laying.board.point(place)
    for thing in row[1]:
        laying.board.flow(laying.lay(thing), things)
    laying.board.make("row", (things,), own, place)


def lay_at(laying, row, place, own):
    looked = laying.lay(row[1])
    index = laying.lay(row[2])
    default = laying.lay(row[3])
    laying.board.use(RowUse(looked, place, 0, own))
    laying.board.use(NumUse(index, place, 1))
    laying.board.flow(default, own)


def lay_join(laying, row, place, own):
    things = laying.board.point(place)
    first = laying.lay(row[1])
    second = laying.lay(row[2])
    laying.board.use(RowUse(first, place, 0, things))
    laying.board.use(RowUse(second, place, 1, things))
    laying.board.make("row", (things,), own, place)


def lay_size(laying, row, place, own):
    things = laying.board.point(place)
    measured = laying.lay(row[1])
    laying.board.use(RowUse(measured, place, 0, things))
    laying.board.make("num", (), own, place)


def lay_sum(laying, row, place, own):
    lay_numbers(laying, row, place)
    laying.board.make("num", (), own, place)


def lay_less(laying, row, place, own):
    nothing = laying.board.point(place)
    lay_numbers(laying, row, place)
    laying.board.make("rec", (), nothing, place)
    laying.board.make("tag", ("yes", nothing), own, place)
    laying.board.make("tag", ("no", nothing), own, place)


def lay_numbers(laying, row, place):
    first = laying.lay(row[1])
    second = laying.lay(row[2])
    laying.board.use(NumUse(first, place, 0))
    laying.board.use(NumUse(second, place, 1))


LAYERS = {
    "num": lay_num,
    "name": lay_name,
    "fn": lay_fn,
    "call": lay_call,
    "let": lay_let,
    "rec": lay_rec,
    "get": lay_get,
    "tag": lay_tag,
    "case": lay_case,
    "row": lay_row,
    "at": lay_at,
    "join": lay_join,
    "size": lay_size,
    "add": lay_sum,
    "sub": lay_sum,
    "less": lay_less,
}
