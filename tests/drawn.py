"""Programs drawn for tests: by the plain rules of small kinds, with slips or without."""

import random

from flowkinds.errors import BadText, TooHeavy
from flowkinds.homes import homes_of
from flowkinds.kinds import under
from flowkinds.reading import read
from flowkinds.weights import weights_of

ANY = ("any",)
NUM = ("num",)
UNIT = ("rec", ())
NONE = ("choice", ())
BOTH = ("choice", (("no", UNIT), ("yes", UNIT)))
WORDS = ("a", "b", "c")


# Told where nothing of the wanted kind can be drawn.
class Stuck(Exception):
    pass


def drawn_kind(chance, nest):
    shape = chance.choice(("num", "num", "any", "fn", "rec", "choice", "row"))
    if shape in ("num", "any") or nest == 1:
        return chance.choice((NUM, NUM, UNIT, ANY, BOTH))
    if shape == "fn":
        first = NONE if chance.random() < 0.1 else drawn_kind(chance, nest - 1)
        return ("fn", first, drawn_kind(chance, nest - 1))
    if shape == "row":
        return ("row", drawn_kind(chance, nest - 1))
    words = sorted(chance.sample(WORDS, chance.randrange(1, 3)))
    return (shape, tuple((word, drawn_kind(chance, nest - 1)) for word in words))


# Functions that have many kinds, each a text and which kinds it can be given.
def is_same(kind):
    return kind[0] == "fn" and under(kind[1], kind[2])


def is_first(kind):
    return kind[0] == "fn" and kind[2][0] == "fn" and under(kind[1], kind[2][2])


def is_called(kind):
    return kind[0] == "fn" and kind[2][0] == "fn" and under(kind[1], ("fn", kind[2][1], kind[2][2]))


def is_boxed(kind):
    return kind[0] == "fn" and under(("rec", (("a", kind[1]), ("b", ("row", kind[1])))), kind[2])


MANY = (
    ("( fn x x )", is_same),
    ("( fn x ( fn y x ) )", is_first),
    ("( fn f ( fn x ( call f x ) ) )", is_called),
    ("( fn x ( rec b ( row x ) a x ) )", is_boxed),
)


# A scope is a tuple of triples: a name, a function that tells of a kind whether
# the name can be given it, and the kind that it was drawn by, or None. An inner
# name hides an outer one.
class Drawer:
    def __init__(self, chance, slip):
        self.chance = chance
        self.slip = slip
        self.names = 0

    def name(self, scope):
        if scope and self.chance.random() < 0.1:
            return self.chance.choice(scope)[0]
        self.names += 1
        return f"v{self.names}"

    def held(self, scope, name, fits, kind=None):
        return tuple(one for one in scope if one[0] != name) + ((name, fits, kind),)

    def held_by(self, scope, name, kind):
        return self.held(scope, name, lambda other: under(kind, other), kind)

    def expr(self, kind, scope, size):
        if self.chance.random() < self.slip:
            if scope and self.chance.random() < 0.5:
                return self.chance.choice(scope)[0]
            kind = drawn_kind(self.chance, 2)
        names = [name for name, fits, _ in scope if fits(kind)]
        if names and self.chance.random() < 0.4:
            return self.chance.choice(names)
        if size > 0 and self.chance.random() < 0.6:
            return self.taken(kind, scope, size - 1)
        if kind == NONE:
            if not names:
                raise Stuck
            return self.chance.choice(names)
        return self.made(kind, scope, size - 1)

    def made(self, kind, scope, size):
        chance = self.chance
        if kind == ANY:
            return self.expr(drawn_kind(chance, 2), scope, size)
        if kind == NUM:
            form = chance.choice(("num", "num", "add", "sub", "size")) if size > 0 else "num"
            if form == "num":
                return str(chance.choice((0, 1, 2, 3, 10 ** 59)))
            if form == "size":
                return f"( size {self.expr(('row', drawn_kind(chance, 1)), scope, size)} )"
            return f"( {form} {self.expr(NUM, scope, size)} {self.expr(NUM, scope, size)} )"
        if kind[0] == "fn":
            name = self.name(scope)
            return f"( fn {name} {self.expr(kind[2], self.held_by(scope, name, kind[1]), size)} )"
        if kind[0] == "rec":
            fields = list(kind[1])
            if chance.random() < 0.2:
                fields.append(("z", drawn_kind(chance, 1)))
            chance.shuffle(fields)
            return "( rec " + "".join(f"{word} {self.expr(part, scope, size)} " for word, part in fields) + ")"
        if kind[0] == "choice":
            if under(BOTH, kind) and chance.random() < 0.7:
                return f"( less {self.expr(NUM, scope, size)} {self.expr(NUM, scope, size)} )"
            word, part = chance.choice(kind[1])
            return f"( tag {word} {self.expr(part, scope, size)} )"
        if size > 0 and chance.random() < 0.3:
            return f"( join {self.expr(kind, scope, size)} {self.expr(kind, scope, size)} )"
        return "( row " + "".join(f"{self.expr(kind[1], scope, size)} " for _ in range(chance.randrange(3))) + ")"

    def taken(self, kind, scope, size):
        chance = self.chance
        known = [(name, one) for name, _, one in scope if one and one[0] == "fn" and under(one[2], kind)]
        if known and chance.random() < 0.4:
            return self.known_call(chance.choice(known), scope, size)
        form = chance.choice(("call", "let", "get", "case", "case", "at"))
        if form == "call":
            first = drawn_kind(chance, 2)
            return f"( call {self.expr(('fn', first, kind), scope, size)} {self.expr(first, scope, size)} )"
        if form == "get":
            word = chance.choice(WORDS)
            return f"( get {self.expr(('rec', ((word, kind),)), scope, size)} {word} )"
        if form == "at":
            row = self.expr(("row", kind), scope, size)
            return f"( at {row} {self.expr(NUM, scope, size)} {self.expr(kind, scope, size)} )"
        if form == "let":
            return self.let(kind, scope, size)
        return self.case(kind, scope, size)

    def known_call(self, known, scope, size):
        return f"( call {known[0]} {self.expr(known[1][1], scope, size)} )"

    def let(self, kind, scope, size):
        name = self.name(scope)
        if self.chance.random() < 0.3:
            text, fits = self.chance.choice(MANY)
            return f"( let {name} {text} {self.expr(kind, self.held(scope, name, fits), size)} )"
        one = drawn_kind(self.chance, 3)
        text = self.expr(one, scope, size)
        return f"( let {name} {text} {self.expr(kind, self.held_by(scope, name, one), size)} )"

    def case(self, kind, scope, size):
        chosen = drawn_kind(self.chance, 3)
        while chosen[0] != "choice":
            chosen = drawn_kind(self.chance, 3)
        arms = list(chosen[1])
        if self.chance.random() < 0.2:
            arms.append(("z", NONE))
        self.chance.shuffle(arms)
        texts = [self.expr(chosen, scope, size)]
        for word, part in arms:
            name = self.name(scope)
            texts.append(f"{word} {name} {self.expr(kind, self.held_by(scope, name, part), size)}")
        return "( case " + " ".join(texts) + " )"

    # A text, and for each definition kinds that it can be given.
    def program(self, count, size):
        scope = ()
        texts, kinds = [], []
        for number in range(count):
            name = f"d{number}"
            if self.chance.random() < 0.2:
                text, fits = self.chance.choice(MANY)
                scope = self.held(scope, name, fits)
                some = [("fn", drawn_kind(self.chance, 2), drawn_kind(self.chance, 3)) for _ in range(20)]
                kinds.append([kind for kind in some if fits(kind)])
            else:
                kind = drawn_kind(self.chance, 3)
                within = scope
                scope = self.held_by(scope, name, kind)
                # In a fn its own name holds too.
                text = self.made(kind, scope, size) if kind[0] == "fn" else self.expr(kind, within, size)
                kinds.append([kind])
            texts.append(f"( def {name} {text} )")
        known = [(name, one) for name, _, one in scope if one and one[0] == "fn"]
        if known:
            called = self.chance.choice(known)
            texts.append(f"( def last {self.known_call(called, scope, size)} )")
            kinds.append([called[1][2]])
        return "\n".join(texts), kinds


# Tells (text, kinds) of so many programs that neither read nor homes_of nor
# weights_of refuse.
def drawn_programs(seed, count, slip, size=4):
    chance = random.Random(seed)
    found = []
    while len(found) < count:
        try:
            text, kinds = Drawer(chance, slip).program(chance.randrange(1, 6), size)
            program = read(text)
            weights_of(program, homes_of(program))
        except (Stuck, BadText, TooHeavy):
            continue
        found.append((text, kinds))
    return found
