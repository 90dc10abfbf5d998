"""Boards: points, and what is made, used and handed on at them."""


class Make:
    def __init__(self, shape, parts, at, place):
        self.shape = shape
        self.parts = parts
        self.at = at
        self.place = place

    def told(self):
        return (self.shape, self.parts, self.at, self.place)


# What the uses have in common. It is not made itself.
class Use:
    def __init__(self, at, place, slot):
        self.at = at
        self.place = place
        self.slot = slot


class NumUse(Use):
    def met(self, make):
        if make.shape != "num":
            return None
        return []

    def told(self):
        return ("num", self.at, self.place, self.slot)


class CallUse(Use):
    def __init__(self, at, place, slot, arg, out):
        Use.__init__(self, at, place, slot)
        self.arg = arg
        self.out = out

    def met(self, make):
        if make.shape != "fn":
            return None
        return [(self.arg, make.parts[0]), (make.parts[1], self.out)]

    def told(self):
        return ("call", self.at, self.place, self.slot, self.arg, self.out)


class TakeUse(Use):
    def __init__(self, at, place, slot, fields):
        Use.__init__(self, at, place, slot)
        self.fields = fields

    def met(self, make):
        if make.shape != "rec":
            return None
        made = dict(make.parts)
        flows = []
        for field in self.fields:
            if field[0] not in made:
                return None
            flows.append((made[field[0]], field[1]))
        return flows

    def told(self):
        return ("take", self.at, self.place, self.slot, self.fields)


class CaseUse(Use):
    def __init__(self, at, place, slot, arms):
        Use.__init__(self, at, place, slot)
        self.arms = arms

    def met(self, make):
        if make.shape != "tag":
            return None
        arms = dict(self.arms)
        if make.parts[0] not in arms:
            return None
        return [(make.parts[1], arms[make.parts[0]])]

    def told(self):
        return ("case", self.at, self.place, self.slot, self.arms)


class RowUse(Use):
    def __init__(self, at, place, slot, out):
        Use.__init__(self, at, place, slot)
        self.out = out

    def met(self, make):
        if make.shape != "row":
            return None
        return [(make.parts[0], self.out)]

    def told(self):
        return ("row", self.at, self.place, self.slot, self.out)


class Board:
    def __init__(self):
        self.points = []
        self.makes = []
        self.uses = []
        self.flows = []
        self.root = 0

    def point(self, place):
        self.points.append(place)
        return len(self.points) - 1

    def make(self, shape, parts, at, place):
        self.makes.append(Make(shape, parts, at, place))

    def use(self, one):
        self.uses.append(one)

    def flow(self, p, q):
        self.flows.append((p, q))

    def rooted(self, p):
        self.root = p


# The numbers of the uses at each point that has some, in the board's order.
def uses_by_point(board):
    found = {}
    for number, one in enumerate(board.uses):
        found.setdefault(one.at, []).append(number)
    return found
