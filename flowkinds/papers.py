"""Papers: kinds told by flows, and how one is put on a board."""

from flowkinds.boards import CallUse, CaseUse, NumUse, RowUse, TakeUse


class Paper:
    def __init__(self, outs, ins, flows):
        self.outs = outs
        self.ins = ins
        self.flows = flows


def pasted(board, paper, place):
    outs = new_points(board, len(paper.outs), place)
    ins = new_points(board, len(paper.ins), place)
    for at, makings in zip(outs, paper.outs):
        for making in makings:
            board.make(making[0], parts_made(making, outs, ins), at, place)
    for at, uses in zip(ins, paper.ins):
        for one in uses:
            board.use(use_made(one, at, place, outs, ins))
    for flow in paper.flows:
        board.flow(ins[flow[0]], outs[flow[1]])
    return outs[0]


def new_points(board, count, place):
    points = []
    for number in range(count):
        points.append(board.point(place))
    return points


def parts_made(making, outs, ins):
    if making[0] == "fn":
        return (ins[making[1]], outs[making[2]])
    if making[0] == "rec":
        return with_points(making[1], outs)
    if making[0] == "tag":
        return (making[1], outs[making[2]])
    if making[0] == "row":
        return (outs[making[1]],)
    return ()


def use_made(one, at, place, outs, ins):
    if one[0] == "call":
        return CallUse(at, place, 0, outs[one[1]], ins[one[2]])
    if one[0] == "take":
        return TakeUse(at, place, 0, with_points(one[1], ins))
    if one[0] == "case":
        return CaseUse(at, place, 0, with_points(one[1], ins))
    if one[0] == "row":
        return RowUse(at, place, 0, ins[one[1]])
    return NumUse(at, place, 0)


def with_points(pairs, points):
    return tuple([(pair[0], points[pair[1]]) for pair in pairs])
