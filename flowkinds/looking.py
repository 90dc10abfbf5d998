"""Programs looked at: which definitions are let by, and what comes to what."""

from flowkinds.homes import homes_of
from flowkinds.laying import laid
from flowkinds.polar import paper_of
from flowkinds.reading import read
from flowkinds.settling import settled
from flowkinds.shortening import short_of
from flowkinds.ways import arrivals, bad_meetings, meeting, meetings, way
from flowkinds.weights import weights_of


class Look:
    def __init__(self, program, homes, boards, logs, papers, refused):
        self.program = program
        self.homes = homes
        self.boards = boards
        self.logs = logs
        self.papers = papers
        self.refused = refused


def look(text):
    return looked_at(text, False)


def look_apart(text):
    return looked_at(text, True)


def looked_at(text, apart):
    looked = begun_look(text)
    for number in range(len(looked.program.names)):
        take_definition(looked, number, looked.papers if apart else None)
        if looked.refused is not None:
            break
    return looked


# A Look at a program of which no definition is taken yet.
def begun_look(text):
    program = read(text)
    homes = homes_of(program)
    weights_of(program, homes)
    return Look(program, homes, [], [], [], None)


def take_definition(looked, number, papers):
    board = laid(looked.program, looked.homes, number, papers)
    log = settled(board)
    looked.boards.append(board)
    looked.logs.append(log)
    if len(log.bads) > 0:
        looked.refused = number
    else:
        looked.papers.append(short_of(paper_of(board, log)[0])[0])


def told_of(text):
    looked = begun_look(text)
    met = []
    bad = []
    arrived = []
    for number in range(len(looked.program.names)):
        board = laid(looked.program, looked.homes, number)
        log = settled(board)
        met.extend(meetings(board, log))
        bad.extend(bad_meetings(board, log))
        arrived.extend(arrivals(board, log))
    return (sorted(set(met)), sorted(set(bad)), sorted(set(arrived)))


def first_bad(look):
    if look.refused is None:
        return None
    log = look.logs[look.refused]
    bad = log.bads[0]
    return meeting(look.boards[look.refused], log.rows[bad[0]], bad[1])


def way_of(look):
    if look.refused is None:
        return []
    log = look.logs[look.refused]
    return way(log, log.bads[0][0])
