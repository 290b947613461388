"""Programs: which of them are right, and which looks they have."""

from lookspare.errors import NoProgram
from lookspare.lines import is_ask, is_place, parts, ways

MOST_NAMES = 6
MOST_ROWS = 3
MOST_LINES = 70
MOST_BOUNDS = 4
GREATEST_WRITTEN = 1000


def check_program(program):
    if not counts_fit(program):
        raise NoProgram(None)
    for at, line in enumerate(program[2]):
        if not line_fits(program, line):
            raise NoProgram(at)
    # Rings come last: only now is each way known to lead to a line that is there.
    for at in range(len(program[2])):
        if is_on_ring(program[2], at):
            raise NoProgram(at)


def looks(program):
    found = []
    for at, line in enumerate(program[2]):
        if is_place(line):
            found.append((at, "low"))
            found.append((at, "high"))
    return found


def counts_fit(program):
    names_fit = 0 <= program[0] <= MOST_NAMES
    rows_fit = 0 <= program[1] <= MOST_ROWS
    return names_fit and rows_fit and 1 <= len(program[2]) <= MOST_LINES


def line_fits(program, line):
    return all([part_fits(program, kind, part) for kind, part in parts(line)])


def part_fits(program, kind, part):
    if kind == "name":
        return is_there(part, program[0])
    if kind == "value":
        return part is None or is_there(part, program[0])
    if kind == "row":
        return is_there(part, program[1])
    if kind == "way":
        return is_there(part, len(program[2]))
    if kind == "number":
        return is_written(part)
    return bounds_fit(program, part)


def bounds_fit(program, bounds):
    if not 1 <= len(bounds) <= MOST_BOUNDS:
        return False
    return all([bound_fits(program, bound) for bound in bounds])


def bound_fits(program, bound):
    return node_fits(program, bound[0]) and node_fits(program, bound[1]) and is_written(bound[2])


def node_fits(program, node):
    if node[0] == "name":
        return is_there(node[1], program[0]) and node[2] == 0
    if node[0] == "len":
        return is_there(node[1], program[1])
    return True


def is_there(number, count):
    return 0 <= number < count


def is_written(number):
    return -GREATEST_WRITTEN <= number <= GREATEST_WRITTEN


def is_on_ring(lines, start):
    # A line that only leads into a ring is not on it, so the search must come back to start itself.
    if not is_ask(lines[start]):
        return False
    seen = {}
    waiting = [start]
    while waiting:
        at = waiting.pop()
        for after in ways(lines[at]):
            if after == start:
                return True
            if is_ask(lines[after]) and after not in seen:
                seen[after] = True
                waiting.append(after)
    return False
