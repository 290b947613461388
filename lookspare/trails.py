"""Trails: the one row of ways from a cut to each line, and what is so behind rows of ways."""

from lookspare.bounds import ZERO, against, bound_now, value_node
from lookspare.cuts import into_each, is_cut
from lookspare.lines import gives, is_ask, is_place, place_of


def trail(program, line):
    leading = into_each(program)
    back = []
    at = line
    while not is_cut(at, leading[at]):
        way = leading[at][0]
        back.append(way)
        at = way[0]
    return (at, list(reversed(back)))


def trail_by(program, way):
    ahead = trail(program, way[0])
    return (ahead[0], ahead[1] + [way])


def facts_of(program, steps):
    facts = [(ZERO, ("len", row), 0) for row in range(program[1])]
    now = first_versions(program)
    for at, which in steps:
        line = program[2][at]
        facts.extend(step_facts(line, which, now))
        now = versions_behind(line, now)
    return facts


def versions(program, steps):
    now = first_versions(program)
    for at, which in steps:
        now = versions_behind(program[2][at], now)
    return now


def at_end(program, steps, bound):
    return bound_now(bound, versions(program, steps))


def needs(program, look):
    line = program[2][look[0]]
    now = versions(program, trail(program, look[0])[1])
    return low_bound(line, now) if look[1] == "low" else high_bound(line, now)


def first_versions(program):
    return [0] * program[0]


def versions_behind(line, now):
    given = gives(line)
    return [version + 1 if name == given else version for name, version in enumerate(now)]


def step_facts(line, which, now):
    if line[0] == "set":
        return alike(given_node(line, now), value_node(line[2], now), line[3])
    if line[0] == "len":
        return alike(given_node(line, now), ("len", line[2]), 0)
    if is_place(line):
        return [low_bound(line, now), high_bound(line, now)]
    if line[0] == "test":
        return branch_facts([(value_node(line[1], now), value_node(line[2], now), line[3])], which)
    if is_ask(line):
        return branch_facts([bound_now(bound, now) for bound in line[1]], which)
    return []


def given_node(line, now):
    return value_node(gives(line), versions_behind(line, now))


# The bounds that say together that a is just b plus c.
def alike(a, b, c):
    return [(a, b, c), (b, a, -c)]


def low_bound(line, now):
    place = place_of(line)
    return (ZERO, value_node(place[1], now), place[2])


def high_bound(line, now):
    place = place_of(line)
    return (value_node(place[1], now), ("len", place[0]), -1 - place[2])


def branch_facts(bounds, which):
    if which == 0:
        return bounds
    # Where several bounds are not all so, it is not told which of them is not.
    return [against(bounds[0])] if len(bounds) == 1 else []
