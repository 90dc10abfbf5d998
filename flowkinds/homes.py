"""What each name of a program means."""

from flowkinds.errors import NoName, Twice
from flowkinds.forms import places_in


def homes_of(program):
    refuse_twice(program.names)
    # A place stands behind the one that it is within, so its scope, the dict
    # of what holds there, is known when the walk comes to it.
    scopes = root_scopes(program)
    homes = []
    for place, row in enumerate(program.rows):
        scope = scopes[place]
        refuse_twice(words_once(row))
        homes.append(home_of(row, place, scope))
        scopes.update(inner_scopes(row, scope))
    return homes


def refuse_twice(words):
    seen = {}
    for word in words:
        if word in seen:
            raise Twice(word)
        seen[word] = True


def words_once(row):
    if row[0] == "rec":
        return [field[0] for field in row[1]]
    if row[0] == "case":
        return [arm[0] for arm in row[2]]
    return []


def home_of(row, place, scope):
    if row[0] != "name":
        return None
    if row[1] not in scope:
        raise NoName(row[1], place)
    return scope[row[1]]


def root_scopes(program):
    scopes = {}
    earlier = {}
    for number, name in enumerate(program.names):
        root = program.roots[number]
        later = widened(earlier, name, ("def", number))
        scopes[root] = later if program.rows[root][0] == "fn" else earlier
        earlier = later
    return scopes


def inner_scopes(row, scope):
    scopes = {}
    for place in places_in(row):
        scopes[place] = scope
    if row[0] == "fn":
        scopes[row[2]] = widened(scope, row[1], ("fn", row[2]))
    if row[0] == "let":
        scopes[row[3]] = widened(scope, row[1], ("let", row[2]))
    if row[0] == "case":
        for arm in row[2]:
            scopes[arm[2]] = widened(scope, arm[1], ("arm", arm[2]))
    return scopes


# A scope is shared by many places, so it is never changed itself.
def widened(scope, name, home):
    wider = dict(scope)
    wider[name] = home
    return wider
