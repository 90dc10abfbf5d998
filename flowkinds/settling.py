"""Settling: all that follows from the flows and makings of a board."""

from flowkinds.boards import uses_by_point


class Log:
    def __init__(self, rows, bads):
        self.rows = rows
        self.bads = bads


def settled(board):
    settling = Settling(board)
    for flow in board.flows:
        settling.put("goes", flow[0], flow[1], None)
    for number, make in enumerate(board.makes):
        settling.put("here", number, make.at, None)
    worked = 0
    while worked < len(settling.rows):
        settling.work(worked)
        worked += 1
    return Log(settling.rows, settling.bads)


# A row is kept by its point (goes, heres) only once it is worked. So the row
# that is being worked finds there just the rows with lesser numbers, in order.
class Settling:
    def __init__(self, board):
        self.board = board
        self.uses_at = uses_by_point(board)
        self.rows = []
        self.bads = []
        self.known = {}
        self.goes = {}
        self.heres = {}

    def put(self, word, first, second, why):
        beginning = (word, first, second)
        if beginning not in self.known:
            self.known[beginning] = True
            self.rows.append((word, first, second, why))

    def work(self, number):
        row = self.rows[number]
        if row[0] == "goes":
            self.work_goes(number, row[1], row[2])
        else:
            self.work_uses(number, row[1], row[2])
            self.work_here(number, row[1], row[2])

    def work_goes(self, number, p, q):
        for here in self.heres.get(p, []):
            self.put("here", here[1], q, (here[0], number))
        self.goes.setdefault(p, []).append((number, q))

    def work_uses(self, number, m, p):
        for u in self.uses_at.get(p, []):
            flows = self.board.uses[u].met(self.board.makes[m])
            if flows is None:
                self.bads.append((number, u))
            else:
                self.put_flows(flows, (number, u))

    def put_flows(self, flows, why):
        for flow in flows:
            self.put("goes", flow[0], flow[1], why)

    def work_here(self, number, m, p):
        for going in self.goes.get(p, []):
            self.put("here", m, going[1], (number, going[0]))
        self.heres.setdefault(p, []).append((number, m))
