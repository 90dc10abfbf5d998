"""Papers written as texts, and read again."""

from flowkinds.coming import OTHER_SIDE, named_in, orderly
from flowkinds.errors import BadPaper
from flowkinds.reading import is_name, is_number, words_of

SIGNS = {"out": "+", "in": "-"}

HEADS = {
    "out": ("num", "any", "fn", "rec", "tag", "row"),
    "in": ("num", "call", "take", "case", "row"),
}

# The parts behind each head that always has the same: names, and numbers of
# the side that it stands on or of the other. The rest has members.
STEADY_PARTS = {
    "num": (),
    "any": (),
    "fn": ("other", "own"),
    "call": ("other", "own"),
    "tag": ("name", "own"),
    "row": ("own",),
}


def shown_paper(paper):
    rows = []
    for number, makings in enumerate(paper.outs):
        rows.append(shown_row(number, makings, "out"))
    targets = targets_of(paper)
    for number, uses in enumerate(paper.ins):
        row = shown_row(number, uses, "in")
        if len(targets[number]) > 0:
            row = row + " " + bracketed("to", targets[number])
        rows.append(row)
    return "\n".join(rows)


def targets_of(paper):
    targets = [[] for uses in paper.ins]
    for flow in paper.flows:
        targets[flow[0]].append(shown_number(flow[1], "out"))
    return targets


def shown_row(number, things, side):
    return " ".join([shown_number(number, side)] + [shown_thing(thing, side) for thing in things])


def shown_thing(thing, side):
    head = thing[0]
    if head not in STEADY_PARTS:
        return bracketed(head, shown_members(thing[1], side))
    if len(STEADY_PARTS[head]) == 0:
        return head
    return bracketed(head, [shown_part(part, wanted, side) for part, wanted in zip(thing[1:], STEADY_PARTS[head])])


def shown_members(members, side):
    words = []
    for member in members:
        words.append(member[0])
        words.append(shown_number(member[1], side))
    return words


def shown_part(part, wanted, side):
    if wanted == "name":
        return part
    return shown_number(part, side_meant(wanted, side))


def shown_number(number, side):
    return SIGNS[side] + str(number)


def side_meant(wanted, side):
    return side if wanted == "own" else OTHER_SIDE[side]


def bracketed(head, words):
    return "(" + " ".join([head] + words) + ")"


# An orderly paper shows just the words that it was read of. So showing it again
# tells rows numbered otherwise, a thing twice, flows out of order and brackets
# round a bare word all at once.
def read_paper(text):
    words = words_of(text)
    rows = rows_in(things_in(words))
    outs = [makings_in(row) for row in rows["out"]]
    ins = [uses_in(row) for row in rows["in"]]
    flows = flows_in(rows["in"])
    check_numbers(outs, ins, flows)
    paper = orderly(outs, ins, flows, 0)[0]
    if words_of(shown_paper(paper)) != words:
        raise BadPaper("the text of no orderly paper")
    return paper


# The words between two brackets are one thing, and each word outside is one.
def things_in(words):
    things = []
    within = None
    for word in words:
        if word == "(" and within is None:
            within = []
        elif word == ")" and within is not None and len(within) > 0:
            things.append(tuple(within))
            within = None
        elif word in ("(", ")"):
            raise BadPaper(f"{word!r} stands where it means nothing")
        elif within is None:
            things.append((word,))
        else:
            within.append(word)
    if within is not None:
        raise BadPaper("a bracket is not closed")
    return things


# For each side the things of each of its rows, without the number ahead.
def rows_in(things):
    rows = {"out": [], "in": []}
    row = None
    for thing in things:
        side = side_begun(thing[0])
        if side is not None:
            row = []
            rows[side].append(row)
        elif row is not None:
            row.append(thing)
        else:
            raise BadPaper("the text begins with no number")
    return rows


def side_begun(word):
    for side in SIGNS:
        if word.startswith(SIGNS[side]):
            return side
    return None


def makings_in(row):
    return [thing_meant(words, "out") for words in row]


def uses_in(row):
    return [thing_meant(words, "in") for words in row if words[0] != "to"]


def flows_in(rows):
    flows = []
    for number, row in enumerate(rows):
        for words in row:
            if words[0] == "to":
                flows.extend([(number, number_meant(word, "out")) for word in words[1:]])
    return flows


def thing_meant(words, side):
    head = words[0]
    if head not in HEADS[side]:
        raise BadPaper(f"{head!r} begins nothing that may stand there")
    if head not in STEADY_PARTS:
        return (head, members_meant(words[1:], side))
    if len(words) - 1 != len(STEADY_PARTS[head]):
        raise BadPaper(f"{head!r} has too few or too many parts")
    parts = [part_meant(word, wanted, side) for word, wanted in zip(words[1:], STEADY_PARTS[head])]
    return (head,) + tuple(parts)


def members_meant(words, side):
    names = [name_meant(word) for word in words[::2]]
    numbers = [number_meant(word, side) for word in words[1::2]]
    if len(names) != len(numbers):
        raise BadPaper("a name without a number")
    if names != sorted(set(names)):
        raise BadPaper("names out of order, or one of them twice")
    return tuple(zip(names, numbers))


def part_meant(word, wanted, side):
    if wanted == "name":
        return name_meant(word)
    return number_meant(word, side_meant(wanted, side))


def name_meant(word):
    if not is_name(word):
        raise BadPaper(f"{word!r} is no name")
    return word


def number_meant(word, side):
    if not word.startswith(SIGNS[side]) or not is_number(word[1:]):
        raise BadPaper(f"{word!r} is no number of an {side}")
    return int(word[1:])


def check_numbers(outs, ins, flows):
    named = [("out", 0)] + [("out", flow[1]) for flow in flows]
    for makings in outs:
        named.extend(named_in(makings, "out"))
    for uses in ins:
        named.extend(named_in(uses, "in"))
    counts = {"out": len(outs), "in": len(ins)}
    for part in named:
        if part[1] >= counts[part[0]]:
            raise BadPaper("a number that no out or in has")
