"""Programs run by turns, and what comes of a run."""

from flowkinds.errors import OutOfTurns, RowFull, WrongKind
from flowkinds.machine import Machine


class Run:
    def __init__(self, end, value, meets, had, begun):
        self.end = end
        self.value = value
        self.meets = meets
        self.had = had
        self.begun = begun


def run(program, homes, turns):
    machine = Machine(program, homes, turns)
    machine.work_program()
    value = machine.defined[-1] if machine.end == "done" else None
    return Run(machine.end, value, machine.meets, machine.had, machine.begun)


def answer(run):
    if run.end == "turns":
        raise OutOfTurns("the turns were used up")
    if run.end == "full":
        raise RowFull("a row would have had too many things")
    if run.end == "wrong":
        last = run.meets[-1]
        raise WrongKind(last[0], last[1], last[2])
    return run.value


def shown_value(value):
    if value[0] == "num":
        return "num " + str(value[1])
    if value[0] == "rec":
        return " ".join(["rec"] + [field[0] for field in value[1]])
    if value[0] == "tag":
        return "tag " + value[1][0]
    if value[0] == "row":
        return "row " + str(len(value[1]))
    return "fn"
