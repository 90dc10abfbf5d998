"""What stands within the row of a place, whatever its form is, and where places stand."""


# A row tells its names and places in the order of the text, so laying it flat
# serves every form alike.
def parts_of(row):
    if row[0] in ("num", "name"):
        return []
    return flat(row[1:])


def places_in(row):
    return [part for part in parts_of(row) if isinstance(part, int)]


def flat(parts):
    found = []
    for part in parts:
        if isinstance(part, tuple):
            found.extend(flat(part))
        else:
            found.append(part)
    return found


# Asked of a place at which the definition's name holds: ahead of its own EXPR
# it holds nowhere, so only the EXPR's end matters.
def stands_in(program, place, number):
    behind = number + 1
    return behind == len(program.roots) or place < program.roots[behind]
