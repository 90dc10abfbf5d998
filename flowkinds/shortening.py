"""Papers made short: outs and ins that may be one become one."""

from flowkinds.coming import OTHER_SIDE, come_to, kept_flows, named_in, numbers_of, orderly, renumbered, with_numbers


def short_of(paper):
    groups = parted(paper)
    outs = least_members(groups["out"])
    ins = least_members(groups["in"])
    told = orderly(
        kept_things(paper.outs, outs, ins), kept_things(paper.ins, ins, outs), kept_flows(paper.flows, ins, outs), 0)
    return (told[0], map_of(len(paper.outs), outs, told[1]), map_of(len(paper.ins), ins, told[2]))


# For each number of one side the least one of its group.
def least_members(groups):
    leasts = {}
    found = {}
    for number in sorted(groups):
        found[number] = leasts.setdefault(groups[number], number)
    return found


# Own and other are the least members, which stand for their groups.
def kept_things(things, own, other):
    kept = {}
    for number in own:
        if own[number] == number:
            kept[number] = renumbered(things[number], own, other)
    return kept


def map_of(count, leasts, come):
    numbers = numbers_of(come)
    return [numbers[leasts[number]] if number in leasts else None for number in range(count)]


def parted(paper):
    come = come_to(paper.outs, paper.ins, 0)
    ones = [("out", number) for number in come[0]] + [("in", number) for number in come[1]]
    parting = Parting(paper, ones)
    for party in joined_alike(paper.flows, ones):
        parting.gather(party)
    asked = ones
    while len(asked) > 0:
        asked = parting.namers_of(parting.part(asked))
    return parting.groups


# The parties that flows join with the same ones of the other side.
def joined_alike(flows, ones):
    joined = {}
    for one in ones:
        joined[one] = []
    for flow in flows:
        source = ("in", flow[0])
        target = ("out", flow[1])
        if source in joined and target in joined:
            joined[source].append(flow[1])
            joined[target].append(flow[0])
    parties = {}
    for one in ones:
        parties.setdefault((one[0], tuple(joined[one])), []).append(one)
    return list(parties.values())


# Groups of ones, each a side and a number on it. A group's number is never
# given again: who leaves a group gets a number that nobody had.
class Parting:
    def __init__(self, paper, ones):
        self.things = {"out": paper.outs, "in": paper.ins}
        self.groups = {"out": {}, "in": {}}
        self.sizes = []
        self.namers = {}
        for one in ones:
            for part in named_in(self.things[one[0]][one[1]], one[0]):
                self.namers.setdefault(part, []).append(one)

    def gather(self, party):
        for one in party:
            self.groups[one[0]][one[1]] = len(self.sizes)
        self.sizes.append(len(party))

    def namers_of(self, moved):
        found = {}
        for one in moved:
            for namer in self.namers.get(one, []):
                found[namer] = True
        return list(found)

    # Tells those that left their groups. It suffices to ask those that name
    # one that has just moved: the others of a group stay alike.
    def part(self, asked):
        parties = {}
        for one in asked:
            group = self.groups[one[0]][one[1]]
            parties.setdefault(group, {}).setdefault(self.form_of(one), []).append(one)
        moved = []
        for group in parties:
            for party in self.leaving(group, sorted(parties[group].values(), key=len)):
                self.sizes[group] -= len(party)
                self.gather(party)
                moved.extend(party)
        return moved

    # Who names one that has just moved is unlike all that don't. So each party
    # leaves, if any of the group weren't asked; else the largest may stay.
    def leaving(self, group, parties):
        if sum([len(party) for party in parties]) < self.sizes[group]:
            return parties
        return parties[:-1]

    # The set of what is made or used, with groups in the place of outs and ins.
    def form_of(self, one):
        own = self.groups[one[0]]
        other = self.groups[OTHER_SIDE[one[0]]]
        return tuple(sorted(set([with_numbers(thing, own, other) for thing in self.things[one[0]][one[1]]])))
