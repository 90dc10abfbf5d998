"""Small kinds: which one is under which, and the least of them."""


def under(one, other):
    asked = [(one, other)]
    while len(asked) > 0:
        pair = asked.pop()
        wanted = pairs_wanted(pair[0], pair[1])
        if wanted is None:
            return False
        asked.extend(wanted)
    return True


# The pairs that must be under one another so that one is under other; None
# where it is not, whatever the pairs are.
def pairs_wanted(one, other):
    if other[0] == "any" or one == ("choice", ()):
        return []
    if one[0] != other[0]:
        return None
    if one[0] == "fn":
        return [(other[1], one[1]), (one[2], other[2])]
    if one[0] == "rec":
        return pairs_by_word(other[1], one[1], other[1])
    if one[0] == "choice":
        return pairs_by_word(one[1], one[1], other[1])
    if one[0] == "row":
        return [(one[1], other[1])]
    return []


def pairs_by_word(wanted, ones, others):
    found = []
    mine = dict(ones)
    theirs = dict(others)
    for member in wanted:
        if member[0] not in mine or member[0] not in theirs:
            return None
        found.append((mine[member[0]], theirs[member[0]]))
    return found


def small_kinds(word):
    least = [("any",), ("num",), ("rec", ()), ("choice", ())]
    kinds = list(least)
    for first in least:
        kinds.extend([("fn", first, second) for second in least])
    kinds.extend([("rec", ((word, kind),)) for kind in least])
    kinds.extend([("choice", ((word, kind),)) for kind in least])
    kinds.extend([("row", kind) for kind in least])
    return kinds
