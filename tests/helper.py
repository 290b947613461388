"""What several files of tests share."""

import copy

from lookspare.claims import known
from lookspare.cuts import cuts, into
from lookspare.errors import NoProgram
from lookspare.lines import ways
from lookspare.programs import check_program
from lookspare.trails import at_end, trail_by
from lookspare.walks import Walk

ZERO = ("zero",)
END = ("end",)
FAR = 10 ** 30
LENGTH = ("len", 0)


def x(name, version=0):
    return ("name", name, version)


def ask(k, m):
    return ("ask", ((ZERO, ZERO, 0),), k, m)


def told_of(program):
    """What check_program tells: "right", or the `line` of its refusal; the program must stay as it was."""
    before = copy.deepcopy(program)
    try:
        told = check_program(program)
    except NoProgram as refusal:
        told = refusal.line
    else:
        if told is not None:
            raise AssertionError(f"check_program gave {told!r} for {program!r}")
        told = "right"
    if program != before:
        raise AssertionError(f"{before!r} was changed into {program!r}")
    return told


def kinds_of(told):
    """The same lists, tuples and dicts with the kind of each other thing in its place; so truths are no numbers."""
    if isinstance(told, dict):
        return {key: (kinds_of(key), kinds_of(told[key])) for key in told}
    if isinstance(told, (list, tuple)):
        return type(told)(kinds_of(part) for part in told)
    return type(told)


def random_program(chance):
    """A right program; most of its lines are often come to by no way, or by one only."""
    names, rows, count = chance.randint(0, 6), chance.randint(0, 3), chance.randint(1, 12)
    words = ["test", "ask", "end"]
    words += ["set", "set", "sum", "take", "tell", "test"] * (names > 0)
    words += ["len", "get", "get", "put", "put"] * (names > 0 and rows > 0)
    return program_of_words(chance, names, rows, [chance.choice(words) for at in range(count - 1)] + ["end"])


def winding_program(chance):
    """A right program in which ways meet and part often, with one end."""
    words = "set set set sum len take get get put tell test test test ask".split()
    chosen = [chance.choice(words) for at in range(chance.randint(4, 20))] + ["end"]
    return program_of_words(chance, chance.randint(1, 3), chance.randint(1, 2), chosen)


def program_of_words(chance, names, rows, chosen):
    """Asks lead to later lines or to other words, so no ring goes through them alone."""
    count = len(chosen)
    lines = []
    for at, word in enumerate(chosen):
        later = [k for k in range(count) if k > at or chosen[k] != "ask"]
        lines.append(random_line(chance, names, rows, word, later if word == "ask" else list(range(count))))
    return (names, rows, lines)


def random_line(chance, names, rows, word, there):
    def name():
        return chance.randrange(names)

    def value():
        return chance.choice([None] + list(range(names)))

    def number():
        return chance.choice((0, 0, 1, -1, 2, -2, 3, 10, -10, chance.randint(-1000, 1000)))

    def way():
        return chance.choice(there)

    def node():
        nodes = [ZERO] + [("name", x, 0) for x in range(names)] + [("len", r) for r in range(rows)]
        return chance.choice(nodes)

    if word == "ask":
        bounds = tuple((node(), node(), number()) for bound in range(chance.randint(1, 4)))
        return ("ask", bounds, way(), way())
    return {
        "set": lambda: ("set", name(), value(), number(), way()),
        "sum": lambda: ("sum", name(), name(), value(), way()),
        "len": lambda: ("len", name(), chance.randrange(rows), way()),
        "take": lambda: ("take", name(), way()),
        "get": lambda: ("get", name(), chance.randrange(rows), value(), number(), way()),
        "put": lambda: ("put", chance.randrange(rows), value(), number(), name(), way()),
        "tell": lambda: ("tell", name(), way()),
        "test": lambda: ("test", value(), value(), number(), way(), way()),
        "end": lambda: ("end",),
    }[word]()


# Some nodes of each kind; a few for many facts, so that these meet.
FEW_NODES = [ZERO, ("name", 0, 0), ("name", 0, 1), ("name", 1, 0), ("name", 5, 200), ("len", 0), ("len", 2)]


def random_facts(chance, least_c=-3, most_c=9):
    nodes = FEW_NODES[:chance.randint(1, len(FEW_NODES))]
    count = chance.choice((0, 1, 2, 4, 6, 10, 20, 40))
    return [(chance.choice(nodes), chance.choice(nodes), chance.randint(least_c, most_c)) for fact in range(count)]


def chain(count, c):
    """So many facts end to end, through unlike nodes."""
    nodes = [("name", at % 6, at // 6) for at in range(count + 1)]
    return nodes, [(a, b, c) for a, b in zip(nodes, nodes[1:])]


def all_least(facts):
    """The least sums of all roads, told otherwise than the program does; None where a ring's sum is below 0."""
    nodes = {node for fact in facts for node in fact[:2]}
    sums = {(node, node): 0 for node in nodes}
    for a, b, c in facts:
        sums[a, b] = min(c, sums.get((a, b), c))
    for middle in nodes:
        for a in nodes:
            for b in nodes:
                if (a, middle) in sums and (middle, b) in sums:
                    there = sums[a, middle] + sums[middle, b]
                    sums[a, b] = min(there, sums.get((a, b), there))
    return None if [node for node in nodes if sums[node, node] < 0] else sums


def wrong_with_road(road, facts, a, b):
    """What is wrong with a road from a to b by these facts, or None."""
    if type(road) is not list:
        return "no list"
    if [fact for fact in road if fact not in facts]:
        return "not of the facts"
    at = a
    for fact in road:
        if fact[0] != at:
            return "not end to end"
        at = fact[1]
    return None if at == b else "leads elsewhere"


def wrong_with_ring(ring, facts):
    if not ring:
        return "no ring"
    if sum(fact[2] for fact in ring) >= 0:
        return "not below 0"
    return wrong_with_road(ring, facts, ring[0][0], ring[0][0])


def random_ways(chance, program, start, most):
    """Ways end to end from a line on, at most so many; fewer where an end is come to."""
    steps = []
    at = start
    while len(steps) < most and ways(program[2][at]):
        which = chance.randrange(len(ways(program[2][at])))
        steps.append((at, which))
        at = ways(program[2][at])[which]
    return steps


# Programs whose walks go on for long, with their rows and what they take.
SUMMING = (3, 1, [
    ("len", 1, 0, 1),
    ("test", 0, 1, -1, 2, 6),
    ("get", 2, 0, 0, 0, 3),
    ("put", 0, None, 0, 2, 4),
    ("tell", 2, 5),
    ("set", 0, 0, 1, 1),
    END,
])
ASKING = (3, 2, [
    ("take", 0, 1),
    ("ask", ((ZERO, x(0), 0), (x(0), ("len", 0), -1)), 2, 6),
    ("get", 1, 0, 0, 0, 3),
    ("ask", ((x(1), x(2), 0),), 5, 4),
    ("set", 2, 1, 0, 5),
    ("sum", 0, 0, 1, 1),
    ("ask", ((x(0), ZERO, -2),), 8, 7),
    ("set", 0, 0, -3, 1),
    ("tell", 2, 0),
])
SINKING = (2, 0, [("set", 0, None, 30, 1), ("test", None, 0, -1, 2, 3), ("set", 0, 0, -1, 1), ("take", 1, 0)])
WALKS = [
    (SUMMING, [[1, 2, 3, 4, 5]], []),
    (SUMMING, [[-7]], []),
    (SUMMING, [[]], []),
    (ASKING, [[0, 3, -1, 1, 2], []], [3, -1, 4, 10, 0, 2, -2, 7] * 9),
    (ASKING, [[5] * 40, [1]], [39, 12, 1, 0, -100]),
    (SINKING, [], list(range(9))),
]


def number_of(node, numbers, rows):
    """The number of a node, numbers being a dict from names in their versions."""
    if node == ZERO:
        return 0
    return len(rows[node[1]]) if node[0] == "len" else numbers[node]


def are_so(bounds, numbers, rows):
    for a, b, c in bounds:
        if number_of(a, numbers, rows) - number_of(b, numbers, rows) > c:
            return False
    return True


def way_gone(program, at, values, rows):
    line = program[2][at]
    numbers = {x(name): value for name, value in enumerate(values)}
    if line[0] == "test":
        y, w = [ZERO if value is None else x(value) for value in line[1:3]]
        return (at, 0 if are_so([(y, w, line[3])], numbers, rows) else 1)
    return (at, 0 if line[0] != "ask" or are_so(line[1], numbers, rows) else 1)


def course_of(program, rows, taken, budget):
    """The ways that a walk goes, asks among them, with the names' values ahead of each and behind the last one."""
    walk = Walk(program, rows, taken, budget)
    gone = []
    seen = [walk.frame()[1]]
    while True:
        at, values = walk.frame()
        between = []
        while program[2][at][0] == "ask":
            between.append(way_gone(program, at, values, rows))
            at = ways(program[2][at])[between[-1][1]]
        way = way_gone(program, at, values, rows)
        walk.step()
        gone += between
        seen += [values] * len(between)
        if walk.told()[0] is not None:
            return gone, seen
        gone.append(way)
        seen.append(walk.frame()[1])


# Programs for claims. The first reads a row place by place: line 1 is its one cut beside line 0.
COUNTING = (2, 1, [
    ("set", 0, None, 0, 1),
    ("len", 1, 0, 2),
    ("test", 0, 1, -1, 3, 5),
    ("get", 1, 0, 0, 0, 4),
    ("set", 0, 0, 1, 1),
    END,
])
RISING = (1, 0, [("set", 0, 0, 1, 0)])
# Names 0 and 1 are given one another's value.
SWAPPING = (3, 0, [("set", 2, 0, 0, 1), ("set", 0, 1, 0, 2), ("set", 1, 2, 0, 0)])
# No run comes to line 1; both its ways lead to line 2, which leads to itself.
NEVER = (2, 1, [("test", None, None, -1, 1, 3), ("test", 0, 1, 0, 2, 2), ("tell", 0, 2), END])


def random_bound(chance, program, most_c=4):
    """A bound of nodes that the program has, names in version 0."""
    nodes = [ZERO] + [x(name) for name in range(program[0])] + [("len", row) for row in range(program[1])]
    return (chance.choice(nodes), chance.choice(nodes), chance.randint(-most_c, most_c))


def random_claims(chance, program, count):
    """Claims at any lines, most of them wrong."""
    return [(chance.randrange(len(program[2])), random_bound(chance, program)) for claim in range(count)]


def is_shown_by(program, claims, claim, way):
    """Whether a way into its line shows a claim, told otherwise than the program does."""
    a, b, c = claim[1] if way is None else at_end(program, trail_by(program, way)[1], claim[1])
    sums = all_least(known(program, claims, way) + [(a, a, 0), (b, b, 0)])
    return sums is None or ((a, b) in sums and sums[a, b] <= c)


def all_hold(program, claims):
    """What hold tells, told otherwise."""
    for claim in claims:
        if claim[0] in cuts(program):
            if not all(is_shown_by(program, claims, claim, way) for way in into(program, claim[0])):
                return False
    return True
