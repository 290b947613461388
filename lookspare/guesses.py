"""Guesses: candidates made of what stands in a program."""

from lookspare.bounds import ZERO, against, value_node
from lookspare.cuts import cuts
from lookspare.lines import is_ask
from lookspare.trails import alike, first_versions

MOST_GUESSES = 400


def guesses(program):
    bounds = guessed_bounds(program)
    found = []
    for line in cuts(program):
        found.extend([(line, bound) for bound in bounds])
    return found[:MOST_GUESSES]


def guessed_bounds(program):
    bounds = bounds_between(program)
    for line in program[2]:
        bounds.extend(line_bounds(line, first_versions(program)))
    each_once = dict([(bound, True) for bound in bounds if bound[0] != bound[1]])
    return sorted(each_once)


def bounds_between(program):
    names = [("name", name, 0) for name in range(program[0])]
    nodes = [ZERO] + names + [("len", row) for row in range(program[1])]
    bounds = []
    for a in nodes:
        for b in nodes:
            if a in names or b in names:
                bounds.extend([(a, b, 0), (a, b, -1)])
    return bounds


def line_bounds(line, now):
    if line[0] == "test":
        return bounds_round((value_node(line[1], now), value_node(line[2], now), line[3]))
    if line[0] == "set" and line[2] is None:
        return alike(value_node(line[1], now), ZERO, line[3])
    return list(line[1]) if is_ask(line) else []


# A test's bound and what is against it, and both with one more, as a count may have when it is tested once more.
def bounds_round(bound):
    turned = against(bound)
    return [bound, one_more(bound), turned, one_more(turned)]


def one_more(bound):
    return (bound[0], bound[1], bound[2] + 1)
