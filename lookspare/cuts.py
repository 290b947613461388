"""Cuts: the lines that are come to, the ways into each of them, and the lines where ways meet."""

from lookspare.lines import ways


def come_to(program):
    found = {0: True}
    waiting = [0]
    while waiting:
        at = waiting.pop()
        for after in ways(program[2][at]):
            if after not in found:
                found[after] = True
                waiting.append(after)
    return sorted(found)


def into(program, line):
    return into_each(program)[line]


def cuts(program):
    return list(into_cuts(program))


# The ways into each cut, cuts rising.
def into_cuts(program):
    return dict([(line, leading) for line, leading in into_each(program).items() if is_cut(line, leading)])


# The ways into each line that is come to, lines rising; the begin is None.
def into_each(program):
    reached = come_to(program)
    leading = dict([(line, []) for line in reached])
    leading[0].append(None)
    for at in reached:
        for which, after in enumerate(ways(program[2][at])):
            leading[after].append((at, which))
    return leading


def is_cut(line, leading):
    return line == 0 or len(leading) >= 2
