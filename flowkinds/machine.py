"""A machine that runs the EXPRs of a program step by step."""

from flowkinds.forms import places_in

MOST_JOINED = 60


# What is still to be done is kept in a list, as Python's own calls can't go as
# deep as a run may. A step is a word, a place, and the scope in which the EXPR
# at that place stands.
class Machine:
    def __init__(self, program, homes, turns):
        self.program = program
        self.homes = homes
        self.turns = turns
        self.begun = 0
        self.end = None
        self.meets = []
        self.had = []
        self.defined = []
        self.steps = []
        self.ready = []

    def work_program(self):
        for root in self.program.roots:
            self.steps.append(("begin", root, None))
            self.work_steps()
            if self.end is not None:
                return
            self.defined.append(self.ready.pop())
        self.end = "done"

    def work_steps(self):
        while self.end is None and len(self.steps) > 0:
            step = self.steps.pop()
            if step[0] == "begin":
                self.begin(step[1], step[2])
            elif step[0] == "parts":
                self.work_parts(step[1], step[2])
            else:
                self.finish(step[1], self.ready.pop())

    def begin(self, place, scope):
        if self.begun >= self.turns:
            self.end = "turns"
            return
        self.begun += 1
        self.steps.append(("parts", place, scope))
        for part in reversed(first_parts(self.program.rows[place])):
            self.steps.append(("begin", part, scope))

    def work_parts(self, place, scope):
        row = self.program.rows[place]
        WORKERS[row[0]](self, row, place, scope, self.take_ready(len(first_parts(row))))

    def take_ready(self, count):
        taken = []
        for number in range(count):
            taken.append(self.ready.pop())
        return list(reversed(taken))

    def finish(self, place, value):
        self.had.append((place, value[2]))
        self.ready.append(value)

    # The value of the EXPR at place will be that of the body.
    def go_into(self, body, scope, place):
        self.steps.append(("hand", place, None))
        self.steps.append(("begin", body, scope))

    # Tells whether the value may come to its use; where it may not, the run is
    # at its end.
    def comes(self, value, place, slot, fits):
        self.meets.append((value[2], place, slot))
        if not fits:
            self.end = "wrong"
        return fits

    def comes_as(self, shape, value, place, slot):
        return self.comes(value, place, slot, value[0] == shape)

    def both_come_as(self, shape, parts, place):
        return self.comes_as(shape, parts[0], place, 0) and self.comes_as(shape, parts[1], place, 1)


# The places that are run ahead of anything else that an EXPR does.
def first_parts(row):
    if row[0] == "fn":
        return []
    if row[0] == "let":
        return [row[2]]
    if row[0] == "case":
        return [row[1]]
    return places_in(row)


# A scope is None, or a place, the value of the name that has its home there,
# and the scope around it. It is made of tuples, as a function's value shows it
# to whoever asked for the run.
def held_value(scope, place):
    around = scope
    while around[0] != place:
        around = around[2]
    return around[1]


def work_num(machine, row, place, scope, parts):
    machine.finish(place, ("num", row[1], place))


def work_name(machine, row, place, scope, parts):
    home = machine.homes[place]
    if home[0] == "def":
        machine.finish(place, machine.defined[home[1]])
    else:
        machine.finish(place, held_value(scope, home[1]))


def work_fn(machine, row, place, scope, parts):
    machine.finish(place, ("fn", (row[2], scope), place))


def work_call(machine, row, place, scope, parts):
    if machine.comes_as("fn", parts[0], place, 0):
        called = parts[0][1]
        machine.go_into(called[0], (called[0], parts[1], called[1]), place)


def work_let(machine, row, place, scope, parts):
    machine.go_into(row[3], (row[2], parts[0], scope), place)


def work_rec(machine, row, place, scope, parts):
    fields = [(field[0], value) for field, value in zip(row[1], parts)]
    machine.finish(place, ("rec", tuple(fields), place))


def work_get(machine, row, place, scope, parts):
    fields = dict(parts[0][1]) if parts[0][0] == "rec" else {}
    if machine.comes(parts[0], place, 0, row[2] in fields):
        machine.finish(place, fields[row[2]])


def work_tag(machine, row, place, scope, parts):
    machine.finish(place, ("tag", (row[1], parts[0]), place))


def work_case(machine, row, place, scope, parts):
    bodies = dict([(arm[0], arm[2]) for arm in row[2]])
    tagged = parts[0][1]
    if machine.comes(parts[0], place, 0, parts[0][0] == "tag" and tagged[0] in bodies):
        body = bodies[tagged[0]]
        machine.go_into(body, (body, tagged[1], scope), place)


def work_row(machine, row, place, scope, parts):
    machine.finish(place, ("row", tuple(parts), place))


def work_at(machine, row, place, scope, parts):
    if machine.comes_as("row", parts[0], place, 0) and machine.comes_as("num", parts[1], place, 1):
        things = parts[0][1]
        index = parts[1][1]
        machine.finish(place, things[index] if 0 <= index < len(things) else parts[2])


def work_join(machine, row, place, scope, parts):
    if machine.both_come_as("row", parts, place):
        things = parts[0][1] + parts[1][1]
        if len(things) > MOST_JOINED:
            machine.end = "full"
        else:
            machine.finish(place, ("row", things, place))


def work_size(machine, row, place, scope, parts):
    if machine.comes_as("row", parts[0], place, 0):
        machine.finish(place, ("num", len(parts[0][1]), place))


def work_add(machine, row, place, scope, parts):
    if machine.both_come_as("num", parts, place):
        machine.finish(place, ("num", parts[0][1] + parts[1][1], place))


def work_sub(machine, row, place, scope, parts):
    if machine.both_come_as("num", parts, place):
        machine.finish(place, ("num", parts[0][1] - parts[1][1], place))


def work_less(machine, row, place, scope, parts):
    if machine.both_come_as("num", parts, place):
        word = "yes" if parts[0][1] < parts[1][1] else "no"
        machine.finish(place, ("tag", (word, ("rec", (), place)), place))


WORKERS = {
    "num": work_num,
    "name": work_name,
    "fn": work_fn,
    "call": work_call,
    "let": work_let,
    "rec": work_rec,
    "get": work_get,
    "tag": work_tag,
    "case": work_case,
    "row": work_row,
    "at": work_at,
    "join": work_join,
    "size": work_size,
    "add": work_add,
    "sub": work_sub,
    "less": work_less,
}
