"""Texts read as programs."""

from flowkinds.errors import BadText

LETTERS = "abcdefghijklmnopqrstuvwxyz"
FIGURES = "0123456789"

KEPT_WORDS = (
    "def", "fn", "call", "let", "rec", "get", "tag", "case", "row", "at", "join", "size", "add", "sub", "less",
)

MOST_FIGURES = 60
MOST_SIGNS = 12
MOST_DEFINITIONS = 12
MOST_FIELDS = 6
MOST_ARMS = 6
MOST_THINGS = 8
MOST_PLACES = 160
MOST_NEST = 24

# The forms that always have the same parts, in the order of the text.
STEADY_FORMS = {
    "fn": ("name", "expr"),
    "call": ("expr", "expr"),
    "let": ("name", "expr", "expr"),
    "get": ("expr", "name"),
    "tag": ("name", "expr"),
    "at": ("expr", "expr", "expr"),
    "join": ("expr", "expr"),
    "size": ("expr",),
    "add": ("expr", "expr"),
    "sub": ("expr", "expr"),
    "less": ("expr", "expr"),
}


class Program:
    def __init__(self, names, roots, rows):
        self.names = names
        self.roots = roots
        self.rows = rows


def words_of(text):
    spaced = text.replace("(", " ( ").replace(")", " ) ").replace("\n", " ")
    # A split without an argument would part words at tabs too.
    return [word for word in spaced.split(" ") if word != ""]


def is_name(word):
    if not 1 <= len(word) <= MOST_SIGNS or word in KEPT_WORDS:
        return False
    return word[0] in LETTERS and made_of(word, LETTERS + FIGURES)


def is_number(word):
    if not 1 <= len(word) <= MOST_FIGURES or not made_of(word, FIGURES):
        return False
    return word[0] != "0" or word == "0"


def made_of(word, signs):
    return all([sign in signs for sign in word])


def read(text):
    reader = Reader(words_of(text))
    names = []
    roots = []
    while reader.ahead() != "":
        reader.pass_over("(")
        reader.pass_over("def")
        names.append(reader.take_name())
        roots.append(reader.take_expr(1))
        reader.pass_over(")")
    check_count("definitions", len(names), 1, MOST_DEFINITIONS)
    return Program(names, roots, reader.rows)


def check_count(what, count, least, most):
    if not least <= count <= most:
        raise BadText(f"{count} {what}: {least} to {most} may be")


# It walks the words of a text once, and puts down the row of each place.
class Reader:
    def __init__(self, words):
        self.words = words
        self.taken = 0
        self.rows = []

    # No word is empty, so the empty text can stand for the end.
    def ahead(self):
        if self.taken == len(self.words):
            return ""
        return self.words[self.taken]

    def take(self):
        word = self.ahead()
        if word == "":
            raise BadText("the text ends too soon")
        self.taken += 1
        return word

    def pass_over(self, wanted):
        word = self.take()
        if word != wanted:
            raise BadText(f"{word!r} stands where {wanted!r} is wanted")

    def take_name(self):
        word = self.take()
        if not is_name(word):
            raise BadText(f"{word!r} is no name")
        return word

    # The depth of the deepest EXPR is the nest of the outermost one. It is
    # asked ahead of going deeper, so no text leads deep into calls.
    def take_expr(self, depth):
        if depth > MOST_NEST:
            raise BadText(f"a nest above {MOST_NEST}")
        place = len(self.rows)
        if place == MOST_PLACES:
            raise BadText(f"more than {MOST_PLACES} places")
        # A place counts from where it begins, ahead of those within it.
        self.rows.append(None)
        self.rows[place] = self.take_row(depth)
        return place

    def take_row(self, depth):
        word = self.take()
        if is_number(word):
            return ("num", int(word))
        if is_name(word):
            return ("name", word)
        if word != "(":
            raise BadText(f"{word!r} begins no EXPR")
        row = self.take_form(self.take(), depth + 1)
        self.pass_over(")")
        return row

    def take_form(self, head, depth):
        if head == "rec":
            return ("rec", self.take_fields(depth))
        if head == "case":
            subject = self.take_expr(depth)
            return ("case", subject, self.take_arms(depth))
        if head == "row":
            return ("row", self.take_things(depth))
        if head not in STEADY_FORMS:
            raise BadText(f"{head!r} is no form")
        return (head,) + self.take_steady(STEADY_FORMS[head], depth)

    def take_steady(self, parts, depth):
        found = []
        for part in parts:
            if part == "name":
                found.append(self.take_name())
            else:
                found.append(self.take_expr(depth))
        return tuple(found)

    def take_fields(self, depth):
        found = []
        while self.ahead() != ")":
            found.append(self.take_steady(("name", "expr"), depth))
        check_count("fields", len(found), 0, MOST_FIELDS)
        return tuple(found)

    def take_arms(self, depth):
        found = []
        while self.ahead() != ")":
            found.append(self.take_steady(("name", "name", "expr"), depth))
        check_count("arms", len(found), 1, MOST_ARMS)
        return tuple(found)

    def take_things(self, depth):
        found = []
        while self.ahead() != ")":
            found.append(self.take_expr(depth))
        check_count("things", len(found), 0, MOST_THINGS)
        return tuple(found)
