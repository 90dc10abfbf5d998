"""Small kinds on boards, and which of them a paper bears."""

from flowkinds.boards import Board, CallUse, CaseUse, NumUse, RowUse, TakeUse
from flowkinds.papers import pasted
from flowkinds.polar import paper_of
from flowkinds.settling import settled


def lower(board, kind):
    at = board.point(0)
    if kind[0] == "fn":
        arg = upper(board, kind[1])
        board.make("fn", (arg, lower(board, kind[2])), at, 0)
    elif kind[0] == "rec":
        board.make("rec", tuple([(field[0], lower(board, field[1])) for field in kind[1]]), at, 0)
    elif kind[0] == "choice":
        for arm in kind[1]:
            board.make("tag", (arm[0], lower(board, arm[1])), at, 0)
    elif kind[0] == "row":
        board.make("row", (lower(board, kind[1]),), at, 0)
    else:
        board.make(kind[0], (), at, 0)
    return at


def upper(board, kind):
    at = board.point(0)
    if kind[0] == "num":
        board.use(NumUse(at, 0, 0))
    elif kind[0] == "fn":
        arg = lower(board, kind[1])
        board.use(CallUse(at, 0, 0, arg, upper(board, kind[2])))
    elif kind[0] == "rec":
        board.use(TakeUse(at, 0, 0, uppers(board, kind[1])))
    elif kind[0] == "choice":
        board.use(CaseUse(at, 0, 0, uppers(board, kind[1])))
    elif kind[0] == "row":
        board.use(RowUse(at, 0, 0, upper(board, kind[1])))
    return at


def uppers(board, members):
    return tuple([(member[0], upper(board, member[1])) for member in members])


def paper_of_kind(kind):
    board = Board()
    board.rooted(lower(board, kind))
    return paper_of(board, settled(board))[0]


def bears(paper, kind):
    board = Board()
    root = pasted(board, paper, 0)
    board.flow(root, upper(board, kind))
    return len(settled(board).bads) == 0
