"""Coming to the outs and ins of a paper, and numbering them by it."""

from flowkinds.papers import Paper

OTHER_SIDE = {"out": "in", "in": "out"}


# The orderly paper of outs, ins and flows that may be numbered in any way and
# of which not all need be come to; and, for each of its own outs and ins, the
# number that it had.
def orderly(outs, ins, flows, start):
    come = come_to(outs, ins, start)
    out_numbers = numbers_of(come[0])
    in_numbers = numbers_of(come[1])
    paper = Paper(
        [renumbered(outs[one], out_numbers, in_numbers) for one in come[0]],
        [renumbered(ins[one], in_numbers, out_numbers) for one in come[1]],
        kept_flows(flows, in_numbers, out_numbers))
    return (paper, come[0], come[1])


# The outs and the ins that are come to from the out start, each in the order
# in which they are come to.
def come_to(outs, ins, start):
    things = {"out": outs, "in": ins}
    queue = [("out", start)]
    known = {("out", start): True}
    taken = 0
    while taken < len(queue):
        side = queue[taken][0]
        number = queue[taken][1]
        for part in named_in(things[side][number], side):
            if part not in known:
                known[part] = True
                queue.append(part)
        taken += 1
    return (on_side(queue, "out"), on_side(queue, "in"))


def on_side(queue, side):
    return [part[1] for part in queue if part[0] == side]


def named_in(things, side):
    found = []
    for thing in things:
        found.extend(parts_named(thing, side))
    return found


# A making's parts are outs and a use's are ins; only the first of a fn and of
# a call is on the other side.
def parts_named(thing, side):
    if thing[0] in ("fn", "call"):
        return [(OTHER_SIDE[side], thing[1]), (side, thing[2])]
    if thing[0] in ("rec", "take", "case"):
        return [(side, pair[1]) for pair in thing[1]]
    if thing[0] == "tag":
        return [(side, thing[2])]
    if thing[0] == "row":
        return [(side, thing[1])]
    return []


def numbers_of(ones):
    numbers = {}
    for number, one in enumerate(ones):
        numbers[one] = number
    return numbers


# Own are the new numbers of the side that the things are on.
def renumbered(things, own, other):
    found = {}
    for thing in things:
        found[with_numbers(thing, own, other)] = True
    return tuple(found)


def with_numbers(thing, own, other):
    if thing[0] in ("fn", "call"):
        return (thing[0], other[thing[1]], own[thing[2]])
    if thing[0] in ("rec", "take", "case"):
        return (thing[0], tuple([(pair[0], own[pair[1]]) for pair in thing[1]]))
    if thing[0] == "tag":
        return ("tag", thing[1], own[thing[2]])
    if thing[0] == "row":
        return ("row", own[thing[1]])
    return thing


def kept_flows(flows, in_numbers, out_numbers):
    kept = []
    for flow in flows:
        if flow[0] in in_numbers and flow[1] in out_numbers:
            kept.append((in_numbers[flow[0]], out_numbers[flow[1]]))
    return sorted(set(kept))
