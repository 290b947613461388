import copy
import random
import unittest

from helper import ZERO, ask, kinds_of, random_program, winding_program
from lookspare.cuts import come_to, cuts, into
from lookspare.lines import ways

END = ("end",)


def on(k):
    return ("set", 0, 0, 1, k)


def fork(k, m, c=0):
    return ("test", 0, None, c, k, m)


def program_of(*lines):
    return (1, 0, list(lines))


def chain_of(count):
    """So many lines, each leading to the next one, the last an end."""
    return program_of(*([on(at + 1) for at in range(count - 1)] + [END]))


# Each with the lines that are come to, the ways into each of them, and the cuts.
CASES = {
    "one line": (program_of(END), [0], {0: [None]}, [0]),
    "one line that leads to itself": (program_of(on(0)), [0], {0: [None, (0, 0)]}, [0]),
    "both ways of one line to itself": (program_of(fork(0, 0)), [0], {0: [None, (0, 0), (0, 1)]}, [0]),
    "three lines on end": (program_of(on(1), on(2), END), [0, 1, 2], {0: [None], 1: [(0, 0)], 2: [(1, 0)]}, [0]),
    "lines against their order": (
        program_of(on(3), END, on(1), on(2)), [0, 1, 2, 3], {0: [None], 1: [(2, 0)], 2: [(3, 0)], 3: [(0, 0)]}, [0],
    ),
    "a way back to line 0": (
        program_of(on(1), fork(0, 2), END), [0, 1, 2], {0: [None, (1, 0)], 1: [(0, 0)], 2: [(1, 1)]}, [0],
    ),
    "two ways back to line 0": (
        program_of(fork(1, 2), on(0), on(0)), [0, 1, 2], {0: [None, (1, 0), (2, 0)], 1: [(0, 0)], 2: [(0, 1)]}, [0],
    ),
    "behind an end": (program_of(on(1), END, on(3), END), [0, 1], {0: [None], 1: [(0, 0)]}, [0]),
    "behind an end, where a way leads": (
        program_of(on(2), END, on(1)), [0, 1, 2], {0: [None], 1: [(2, 0)], 2: [(0, 0)]}, [0],
    ),
    "a line not come to leads to lines that are": (
        program_of(on(1), END, on(1), on(0)), [0, 1], {0: [None], 1: [(0, 0)]}, [0],
    ),
    "lines not come to lead to one another and to lines that are": (
        program_of(on(1), END, on(3), fork(2, 1), fork(1, 2), on(4)), [0, 1], {0: [None], 1: [(0, 0)]}, [0],
    ),
    "a line not come to between those that are": (
        program_of(on(2), on(2), fork(3, 4), END, END), [0, 2, 3, 4],
        {0: [None], 2: [(0, 0)], 3: [(2, 0)], 4: [(2, 1)]}, [0],
    ),
    "a line not come to leads to itself": (program_of(END, on(1)), [0], {0: [None]}, [0]),
    "both ways of a test": (
        program_of(fork(1, 2), END, END), [0, 1, 2], {0: [None], 1: [(0, 0)], 2: [(0, 1)]}, [0],
    ),
    "both ways of a test to one line": (
        program_of(fork(1, 1), END), [0, 1], {0: [None], 1: [(0, 0), (0, 1)]}, [0, 1],
    ),
    "both ways of an ask": (program_of(ask(2, 1), END, END), [0, 1, 2], {0: [None], 1: [(0, 1)], 2: [(0, 0)]}, [0]),
    "both ways of an ask to one line": (program_of(ask(1, 1), END), [0, 1], {0: [None], 1: [(0, 0), (0, 1)]}, [0, 1]),
    "both ways of an ask to one line, and one more": (
        program_of(fork(2, 1), ask(2, 2), END), [0, 1, 2],
        {0: [None], 1: [(0, 1)], 2: [(0, 0), (1, 0), (1, 1)]}, [0, 2],
    ),
    "a loop": (
        program_of(on(1), fork(2, 3), on(1), END), [0, 1, 2, 3],
        {0: [None], 1: [(0, 0), (2, 0)], 2: [(1, 0)], 3: [(1, 1)]}, [0, 1],
    ),
    "a line that leads to itself": (
        program_of(on(1), fork(1, 2), END), [0, 1, 2], {0: [None], 1: [(0, 0), (1, 0)], 2: [(1, 1)]}, [0, 1],
    ),
    "ways that meet": (
        program_of(fork(1, 2), on(3), on(3), END), [0, 1, 2, 3],
        {0: [None], 1: [(0, 0)], 2: [(0, 1)], 3: [(1, 0), (2, 0)]}, [0, 3],
    ),
    "ways that rise by line, whatever leads first": (
        program_of(on(3), on(4), fork(4, 1), fork(2, 4), END), [0, 1, 2, 3, 4],
        {0: [None], 1: [(2, 1)], 2: [(3, 0)], 3: [(0, 0)], 4: [(1, 0), (2, 0), (3, 1)]}, [0, 4],
    ),
    "two ways in, one of a line not come to": (
        program_of(on(1), on(2), END, on(1), fork(2, 2)), [0, 1, 2], {0: [None], 1: [(0, 0)], 2: [(1, 0)]}, [0],
    ),
    "three ways in, one of a line not come to": (
        program_of(fork(1, 2), on(2), END, on(2)), [0, 1, 2], {0: [None], 1: [(0, 0)], 2: [(0, 1), (1, 0)]}, [0, 2],
    ),
}


def come_to_otherwise(program):
    """All lines, less those into which no row of ways leads: told by going one way further until nothing comes."""
    reached = [0]
    while True:
        more = sorted(set(reached) | {k for at in reached for k in ways(program[2][at])})
        if more == reached:
            return reached
        reached = more


def into_otherwise(program, line):
    told = [None] if line == 0 else []
    for at in come_to_otherwise(program):
        told += [(at, which) for which in (0, 1) if ways(program[2][at])[which:which + 1] == (line,)]
    return told


class Cuts(unittest.TestCase):
    def test_cases(self):
        for case, (program, reached, leading, met) in CASES.items():
            with self.subTest(case):
                before = copy.deepcopy(program)
                self.assertEqual(come_to(program), reached)
                self.assertEqual({line: into(program, line) for line in reached}, leading)
                self.assertEqual(cuts(program), met)
                self.assertEqual(program, before)

    def test_kinds(self):
        for program, reached, leading, met in CASES.values():
            self.assertEqual(kinds_of(come_to(program)), kinds_of(reached))
            self.assertEqual(kinds_of(cuts(program)), kinds_of(met))
            for line in reached:
                self.assertEqual(kinds_of(into(program, line)), kinds_of(leading[line]))

    def test_whatever_tests_and_asks_say(self):
        for c in (-1000, -1, 0, 1, 1000):
            # Nought less nought is at most c or it is not: one of the two ways is gone by no run.
            for line in (("test", None, None, c, 1, 2), ("test", 0, 0, c, 1, 2), ("ask", ((ZERO, ZERO, c),), 1, 2)):
                program = program_of(line, END, END)
                self.assertEqual(come_to(program), [0, 1, 2])
                self.assertEqual(into(program, 1), [(0, 0)])
                self.assertEqual(into(program, 2), [(0, 1)])

    def test_whatever_looks_say(self):
        for place in (("get", 0, 0, None, -1, 1), ("put", 0, None, -1, 0, 1)):
            program = (1, 1, [place, END])
            self.assertEqual(come_to(program), [0, 1])
            self.assertEqual(into(program, 1), [(0, 0)])

    def test_each_word_leads_on(self):
        for line in (
            ("set", 0, None, 0, 1), ("sum", 0, 0, None, 1), ("len", 0, 0, 1), ("take", 0, 1), ("get", 0, 0, 0, 0, 1),
            ("put", 0, 0, 0, 0, 1), ("tell", 0, 1), ("test", 0, 0, 0, 1, 1), ask(1, 1),
        ):
            self.assertEqual(come_to((1, 1, [line, END])), [0, 1], line)
            self.assertEqual(into((1, 1, [line, END]), 1), [(0, which) for which in range(len(ways(line)))], line)

    def test_seventy_lines(self):
        program = chain_of(70)
        self.assertEqual(come_to(program), list(range(70)))
        self.assertEqual(cuts(program), [0])
        self.assertEqual(into(program, 69), [(68, 0)])
        program[2][34] = END
        self.assertEqual(come_to(program), list(range(35)))
        program[2][33] = fork(34, 69)
        self.assertEqual(come_to(program), list(range(35)) + [69])

    def test_seventy_lines_that_all_lead_to_two(self):
        program = program_of(*[fork(1, (at + 1) % 70) for at in range(70)])
        self.assertEqual(come_to(program), list(range(70)))
        self.assertEqual(cuts(program), [0, 1])
        self.assertEqual(into(program, 0), [None, (69, 1)])
        self.assertEqual(into(program, 1), [(0, 0), (0, 1)] + [(at, 0) for at in range(1, 70)])
        self.assertEqual(into(program, 69), [(68, 1)])

    def test_as_told_otherwise(self):
        chance = random.Random(22)
        met = 0
        for count in range(600):
            program = random_program(chance) if count % 2 else winding_program(chance)
            reached = come_to_otherwise(program)
            self.assertEqual(come_to(program), reached, program)
            for line in reached:
                self.assertEqual(into(program, line), into_otherwise(program, line), (program, line))
            told = [line for line in reached if line == 0 or len(into_otherwise(program, line)) >= 2]
            self.assertEqual(cuts(program), told, program)
            met += len(told)
        self.assertGreater(met, 1000)

    def test_what_is_told_is_the_askers_own(self):
        program, reached, leading, met = copy.deepcopy(CASES["a loop"])
        for again in range(2):
            told = [come_to(program), into(program, 1), cuts(program), into(program, 0)]
            self.assertEqual(told, [reached, leading[1], met, leading[0]])
            for one in told:
                one.clear()

    def test_what_was_told_stays_behind_a_change(self):
        program, reached, leading, met = copy.deepcopy(CASES["a loop"])
        told = [come_to(program), into(program, 1), cuts(program)]
        program[2][:] = [END]
        self.assertEqual(told, [reached, leading[1], met])
        self.assertEqual(come_to(program), [0])
        self.assertEqual(into(program, 0), [None])
        self.assertEqual(cuts(program), [0])

    def test_by_turns(self):
        for again in range(2):
            for case in ("a loop", "ways that meet", "one line"):
                program, reached, leading, met = CASES[case]
                self.assertEqual(come_to(program), reached)
                self.assertEqual(cuts(program), met)
                self.assertEqual({line: into(program, line) for line in reached}, leading)


if __name__ == "__main__":
    unittest.main()
