"""How much each place of a program weighs."""

from flowkinds.errors import TooHeavy
from flowkinds.forms import places_in, stands_in

MOST_WEIGHT = 60


def weights_of(program, homes):
    weights = [0] * len(program.rows)
    for number, root in enumerate(program.roots):
        for place in inside_out(program.rows, root):
            weights[place] = weight_of(program, homes, place, weights)
        # Asked here already, so that a later definition only ever names ones
        # that are weighed and not too heavy.
        if weights[root] > MOST_WEIGHT:
            raise TooHeavy(program.names[number])
    return weights


# Each place behind those within it and behind all that stands to its left, so
# that a let's E is weighed ahead of the names that stand for it. The places
# are taken from right to left first, each ahead of those within it.
def inside_out(rows, root):
    found = []
    ahead = [root]
    while len(ahead) > 0:
        place = ahead.pop()
        found.append(place)
        ahead.extend(places_in(rows[place]))
    return list(reversed(found))


def weight_of(program, homes, place, weights):
    home = homes[place]
    if home is None:
        return 1 + sum([weights[inner] for inner in places_in(program.rows[place])])
    if home[0] == "let":
        return 1 + weights[home[1]]
    if home[0] == "def" and not stands_in(program, place, home[1]):
        return 1 + weights[program.roots[home[1]]]
    return 1
