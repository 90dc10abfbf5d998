"""Papers made of settled boards."""

from flowkinds.coming import orderly


# First each point has an out and an in, with points in the place of their
# numbers; the orderly paper keeps those that are come to.
def paper_of(board, log):
    # The root of a board without points is none of them.
    count = max(len(board.points), board.root + 1)
    reached = reached_points(log, count)
    return orderly(makings_here(board, log, count), uses_reached(board, reached), flows_of(reached), board.root)


def reached_points(log, count):
    goes = {}
    for row in log.rows:
        if row[0] == "goes":
            goes.setdefault(row[1], []).append(row[2])
    return [reached_from(p, goes) for p in range(count)]


def reached_from(p, goes):
    reached = {p: True}
    ahead = [p]
    while len(ahead) > 0:
        taken = ahead.pop()
        for q in goes.get(taken, []):
            if q not in reached:
                reached[q] = True
                ahead.append(q)
    return reached


def makings_here(board, log, count):
    numbers = [[] for p in range(count)]
    for row in log.rows:
        if row[0] == "here":
            numbers[row[2]].append(row[1])
    return [making_forms(board, here) for here in numbers]


def making_forms(board, numbers):
    return [making_form(board.makes[m]) for m in sorted(numbers)]


def making_form(make):
    if make.shape == "rec":
        return ("rec", by_word(make.parts))
    return (make.shape,) + make.parts


def uses_reached(board, reached):
    return [use_forms(board, points) for points in reached]


def use_forms(board, points):
    return [use_form(one) for one in board.uses if one.at in points]


# Behind its word, its point, place and slot a use tells just what a paper
# writes of it.
def use_form(one):
    told = one.told()
    if told[0] in ("take", "case"):
        return (told[0], by_word(told[4]))
    return (told[0],) + told[4:]


def by_word(pairs):
    return tuple(sorted(pairs, key=lambda pair: pair[0]))


def flows_of(reached):
    flows = []
    for p, points in enumerate(reached):
        for q in points:
            flows.append((p, q))
    return flows
