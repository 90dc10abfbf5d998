"""Reports: what looking at a program and running it tells, as a text."""

from flowkinds.looking import first_bad, look
from flowkinds.notes import shown_paper
from flowkinds.running import run, shown_value
from flowkinds.ways import chain


def report(text, turns):
    looked = look(text)
    rows = []
    for name, paper in zip(looked.program.names, looked.papers):
        rows.append(f"kind {name}")
        rows.append(shown_paper(paper))
    if looked.refused is None:
        rows.append(end_row(run(looked.program, looked.homes, turns)))
    else:
        rows.append(refused_row(looked))
        rows.append(way_row(looked))
    return "\n".join(rows)


def end_row(ran):
    if ran.end == "done":
        return "ends done " + shown_value(ran.value)
    return "ends " + ran.end


def refused_row(looked):
    name = looked.program.names[looked.refused]
    bad = first_bad(looked)
    made = bad[0]
    used = bad[1]
    slot = bad[2]
    return f"refused {name} made {made} used {used} slot {slot}"


def way_row(looked):
    board = looked.boards[looked.refused]
    log = looked.logs[looked.refused]
    places = [str(board.points[point]) for point in chain(log, log.bads[0][0])]
    return " ".join(["way"] + places)
