"""What stands within the row of a place, whatever its form is."""


# A row tells its names and places in the order of the text, so laying it flat
# serves every form alike.
def parts_of(row):
    if row[0] in ("num", "name"):
        return []
    return flat(row[1:])


def places_in(row):
    return [part for part in parts_of(row) if isinstance(part, int)]


def flat(parts):
    found = []
    for part in parts:
        if isinstance(part, tuple):
            found.extend(flat(part))
        else:
            found.append(part)
    return found
