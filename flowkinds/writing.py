"""Programs written as texts."""

from flowkinds.forms import parts_of


def written(program):
    texts = texts_of(program.rows)
    definitions = []
    for name, root in zip(program.names, program.roots):
        body = texts[root]
        definitions.append(f"(def {name} {body})")
    return "\n".join(definitions)


# What stands within an EXPR has a greater place, so going backwards every
# part is written ahead of what holds it.
def texts_of(rows):
    texts = [""] * len(rows)
    for place in range(len(rows) - 1, -1, -1):
        texts[place] = text_of(rows[place], texts)
    return texts


def text_of(row, texts):
    if row[0] == "num":
        return str(row[1])
    if row[0] == "name":
        return row[1]
    words = [row[0]]
    for part in parts_of(row):
        words.append(part if isinstance(part, str) else texts[part])
    return "(" + " ".join(words) + ")"
