"""Ways through a Log, and which makings come to which uses by it."""

from flowkinds.boards import uses_by_point


def way(log, k):
    needed = needed_rows(log, k)
    places = {}
    for place, number in enumerate(needed):
        places[number] = place
    return [with_places(log.rows[number], places) for number in needed]


def needed_rows(log, k):
    needed = {k: True}
    ahead = [k]
    while len(ahead) > 0:
        row = log.rows[ahead.pop()]
        for number in named_rows(row):
            if number not in needed:
                needed[number] = True
                ahead.append(number)
    return sorted(needed)


def named_rows(row):
    why = row[3]
    if why is None:
        return []
    if row[0] == "goes":
        return [why[0]]
    return [why[0], why[1]]


def with_places(row, places):
    why = row[3]
    if why is None:
        return row
    if row[0] == "goes":
        return (row[0], row[1], row[2], (places[why[0]], why[1]))
    return (row[0], row[1], row[2], (places[why[0]], places[why[1]]))


def chain(log, k):
    row = log.rows[k]
    points = [row[2]]
    while row[3] is not None:
        row = log.rows[row[3][0]]
        points.append(row[2])
    return list(reversed(points))


def meetings(board, log):
    uses_at = uses_by_point(board)
    found = []
    for row in here_rows(log):
        for u in uses_at.get(row[2], []):
            found.append(meeting(board, row, u))
    return sorted(set(found))


def bad_meetings(board, log):
    return sorted(set([meeting(board, log.rows[bad[0]], bad[1]) for bad in log.bads]))


def arrivals(board, log):
    return sorted(set([(board.points[row[2]], board.makes[row[1]].place) for row in here_rows(log)]))


def here_rows(log):
    return [row for row in log.rows if row[0] == "here"]


def meeting(board, row, u):
    one = board.uses[u]
    return (board.makes[row[1]].place, one.place, one.slot)
