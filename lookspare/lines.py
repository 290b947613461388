"""Lines: what stands in them, where they lead, which name they give."""

# What stands behind each word, in order. "value" is a name, or None for nought.
PARTS = {
    "set": ("name", "value", "number", "way"),
    "sum": ("name", "name", "value", "way"),
    "len": ("name", "row", "way"),
    "take": ("name", "way"),
    "get": ("name", "row", "value", "number", "way"),
    "put": ("row", "value", "number", "name", "way"),
    "tell": ("name", "way"),
    "test": ("value", "value", "number", "way", "way"),
    "ask": ("bounds", "way", "way"),
    "end": (),
}
GIVING = ("set", "sum", "len", "take", "get")
PLACING = ("get", "put")


def kinds_behind(word):
    return PARTS.get(word)


def parts(line):
    return list(zip(PARTS[line[0]], line[1:]))


def ways(line):
    return tuple([part for kind, part in parts(line) if kind == "way"])


def gives(line):
    return line[1] if line[0] in GIVING else None


def is_place(line):
    return line[0] in PLACING


# The row of a place line, and the value and the number that add up to its place.
def place_of(line):
    return line[2:5] if line[0] == "get" else line[1:4]


def is_ask(line):
    return line[0] == "ask"
