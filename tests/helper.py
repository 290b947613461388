"""What several files of tests share."""

import copy

from lookspare.errors import NoProgram
from lookspare.lines import ways
from lookspare.programs import check_program

ZERO = ("zero",)
FAR = 10 ** 30


def ask(k, m):
    return ("ask", ((ZERO, ZERO, 0),), k, m)


def told_of(program):
    """What check_program tells: "right", or the `line` of its refusal; the program must stay as it was."""
    before = copy.deepcopy(program)
    try:
        told = check_program(program)
    except NoProgram as refusal:
        told = refusal.line
    else:
        if told is not None:
            raise AssertionError(f"check_program gave {told!r} for {program!r}")
        told = "right"
    if program != before:
        raise AssertionError(f"{before!r} was changed into {program!r}")
    return told


def kinds_of(told):
    """The same lists, tuples and dicts with the kind of each other thing in its place; so truths are no numbers."""
    if isinstance(told, dict):
        return {key: (kinds_of(key), kinds_of(told[key])) for key in told}
    if isinstance(told, (list, tuple)):
        return type(told)(kinds_of(part) for part in told)
    return type(told)


def random_program(chance):
    """A right program; most of its lines are often come to by no way, or by one only."""
    names, rows, count = chance.randint(0, 6), chance.randint(0, 3), chance.randint(1, 12)
    words = ["test", "ask", "end"]
    words += ["set", "set", "sum", "take", "tell", "test"] * (names > 0)
    words += ["len", "get", "get", "put", "put"] * (names > 0 and rows > 0)
    return program_of_words(chance, names, rows, [chance.choice(words) for at in range(count - 1)] + ["end"])


def winding_program(chance):
    """A right program in which ways meet and part often, with one end."""
    words = "set set set sum len take get get put tell test test test ask".split()
    chosen = [chance.choice(words) for at in range(chance.randint(4, 20))] + ["end"]
    return program_of_words(chance, chance.randint(1, 3), chance.randint(1, 2), chosen)


def program_of_words(chance, names, rows, chosen):
    """Asks lead to later lines or to other words, so no ring goes through them alone."""
    count = len(chosen)
    lines = []
    for at, word in enumerate(chosen):
        later = [k for k in range(count) if k > at or chosen[k] != "ask"]
        lines.append(random_line(chance, names, rows, word, later if word == "ask" else list(range(count))))
    return (names, rows, lines)


def random_line(chance, names, rows, word, there):
    def name():
        return chance.randrange(names)

    def value():
        return chance.choice([None] + list(range(names)))

    def number():
        return chance.choice((0, 0, 1, -1, 2, -2, 3, 10, -10, chance.randint(-1000, 1000)))

    def way():
        return chance.choice(there)

    def node():
        nodes = [ZERO] + [("name", x, 0) for x in range(names)] + [("len", r) for r in range(rows)]
        return chance.choice(nodes)

    if word == "ask":
        bounds = tuple((node(), node(), number()) for bound in range(chance.randint(1, 4)))
        return ("ask", bounds, way(), way())
    return {
        "set": lambda: ("set", name(), value(), number(), way()),
        "sum": lambda: ("sum", name(), name(), value(), way()),
        "len": lambda: ("len", name(), chance.randrange(rows), way()),
        "take": lambda: ("take", name(), way()),
        "get": lambda: ("get", name(), chance.randrange(rows), value(), number(), way()),
        "put": lambda: ("put", chance.randrange(rows), value(), number(), name(), way()),
        "tell": lambda: ("tell", name(), way()),
        "test": lambda: ("test", value(), value(), number(), way(), way()),
        "end": lambda: ("end",),
    }[word]()


# Some nodes of each kind; a few for many facts, so that these meet.
FEW_NODES = [ZERO, ("name", 0, 0), ("name", 0, 1), ("name", 1, 0), ("name", 5, 200), ("len", 0), ("len", 2)]


def random_facts(chance, least_c=-3, most_c=9):
    nodes = FEW_NODES[:chance.randint(1, len(FEW_NODES))]
    count = chance.choice((0, 1, 2, 4, 6, 10, 20, 40))
    return [(chance.choice(nodes), chance.choice(nodes), chance.randint(least_c, most_c)) for fact in range(count)]


def chain(count, c):
    """So many facts end to end, through unlike nodes."""
    nodes = [("name", at % 6, at // 6) for at in range(count + 1)]
    return nodes, [(a, b, c) for a, b in zip(nodes, nodes[1:])]


def all_least(facts):
    """The least sums of all roads, told otherwise than the program does; None where a ring's sum is below 0."""
    nodes = {node for fact in facts for node in fact[:2]}
    sums = {(node, node): 0 for node in nodes}
    for a, b, c in facts:
        sums[a, b] = min(c, sums.get((a, b), c))
    for middle in nodes:
        for a in nodes:
            for b in nodes:
                if (a, middle) in sums and (middle, b) in sums:
                    there = sums[a, middle] + sums[middle, b]
                    sums[a, b] = min(there, sums.get((a, b), there))
    return None if [node for node in nodes if sums[node, node] < 0] else sums


def wrong_with_road(road, facts, a, b):
    """What is wrong with a road from a to b by these facts, or None."""
    if type(road) is not list:
        return "no list"
    if [fact for fact in road if fact not in facts]:
        return "not of the facts"
    at = a
    for fact in road:
        if fact[0] != at:
            return "not end to end"
        at = fact[1]
    return None if at == b else "leads elsewhere"


def wrong_with_ring(ring, facts):
    if not ring:
        return "no ring"
    if sum(fact[2] for fact in ring) >= 0:
        return "not below 0"
    return wrong_with_road(ring, facts, ring[0][0], ring[0][0])


def random_ways(chance, program, start, most):
    """Ways end to end from a line on, at most so many; fewer where an end is come to."""
    steps = []
    at = start
    while len(steps) < most and ways(program[2][at]):
        which = chance.randrange(len(ways(program[2][at])))
        steps.append((at, which))
        at = ways(program[2][at])[which]
    return steps
