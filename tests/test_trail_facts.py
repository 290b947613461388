import copy
import random
import unittest

from helper import ZERO, kinds_of, random_program, random_ways, winding_program
from lookspare.trails import facts_of, trail

END = ("end",)
LENGTHS = [(ZERO, ("len", 0), 0), (ZERO, ("len", 1), 0)]
FOUR = (
    (("name", 1, 0), ("name", 0, 0), -1),
    (ZERO, ("name", 0, 0), 0),
    (("len", 0), ("len", 1), 7),
    (("name", 2, 0), ("name", 2, 0), 1000),
)


def x(name, version):
    return ("name", name, version)


# Each line, done first of all by a way, with its facts.
FIRST = [
    (("set", 0, 1, 5, 1), 0, [(x(0, 1), x(1, 0), 5), (x(1, 0), x(0, 1), -5)]),
    (("set", 1, 0, -5, 1), 0, [(x(1, 1), x(0, 0), -5), (x(0, 0), x(1, 1), 5)]),
    (("set", 2, 0, 0, 1), 0, [(x(2, 1), x(0, 0), 0), (x(0, 0), x(2, 1), 0)]),
    (("set", 0, None, 3, 1), 0, [(x(0, 1), ZERO, 3), (ZERO, x(0, 1), -3)]),
    (("set", 2, None, -1000, 1), 0, [(x(2, 1), ZERO, -1000), (ZERO, x(2, 1), 1000)]),
    (("set", 0, None, 0, 1), 0, [(x(0, 1), ZERO, 0), (ZERO, x(0, 1), 0)]),
    (("set", 1, 1, 1, 1), 0, [(x(1, 1), x(1, 0), 1), (x(1, 0), x(1, 1), -1)]),
    (("set", 1, 1, 0, 1), 0, [(x(1, 1), x(1, 0), 0), (x(1, 0), x(1, 1), 0)]),
    (("sum", 0, 1, 2, 1), 0, []),
    (("sum", 0, 1, None, 1), 0, []),
    (("sum", 0, 0, 0, 1), 0, []),
    (("len", 1, 0, 1), 0, [(x(1, 1), ("len", 0), 0), (("len", 0), x(1, 1), 0)]),
    (("len", 0, 1, 1), 0, [(x(0, 1), ("len", 1), 0), (("len", 1), x(0, 1), 0)]),
    (("take", 0, 1), 0, []),
    (("get", 2, 1, 0, 4, 1), 0, [(ZERO, x(0, 0), 4), (x(0, 0), ("len", 1), -5)]),
    (("get", 2, 0, 1, -4, 1), 0, [(ZERO, x(1, 0), -4), (x(1, 0), ("len", 0), 3)]),
    (("get", 0, 1, None, 4, 1), 0, [(ZERO, ZERO, 4), (ZERO, ("len", 1), -5)]),
    (("get", 0, 0, None, -1, 1), 0, [(ZERO, ZERO, -1), (ZERO, ("len", 0), 0)]),
    (("get", 0, 1, 0, 0, 1), 0, [(ZERO, x(0, 0), 0), (x(0, 0), ("len", 1), -1)]),
    (("put", 1, 0, 4, 2, 1), 0, [(ZERO, x(0, 0), 4), (x(0, 0), ("len", 1), -5)]),
    (("put", 0, 2, -1, 2, 1), 0, [(ZERO, x(2, 0), -1), (x(2, 0), ("len", 0), 0)]),
    (("put", 0, None, 9, 2, 1), 0, [(ZERO, ZERO, 9), (ZERO, ("len", 0), -10)]),
    (("tell", 0, 1), 0, []),
    (("test", 0, 1, 6, 1, 1), 0, [(x(0, 0), x(1, 0), 6)]),
    (("test", 0, 1, 6, 1, 1), 1, [(x(1, 0), x(0, 0), -7)]),
    (("test", 1, 2, -6, 1, 1), 0, [(x(1, 0), x(2, 0), -6)]),
    (("test", 1, 2, -6, 1, 1), 1, [(x(2, 0), x(1, 0), 5)]),
    (("test", None, 2, 0, 1, 1), 0, [(ZERO, x(2, 0), 0)]),
    (("test", None, 2, 0, 1, 1), 1, [(x(2, 0), ZERO, -1)]),
    (("test", 2, None, -1, 1, 1), 0, [(x(2, 0), ZERO, -1)]),
    (("test", 2, None, -1, 1, 1), 1, [(ZERO, x(2, 0), 0)]),
    (("test", None, None, 3, 1, 1), 0, [(ZERO, ZERO, 3)]),
    (("test", None, None, 3, 1, 1), 1, [(ZERO, ZERO, -4)]),
    (("test", 1, 1, 2, 1, 1), 0, [(x(1, 0), x(1, 0), 2)]),
    (("test", 1, 1, 2, 1, 1), 1, [(x(1, 0), x(1, 0), -3)]),
    (("ask", ((x(0, 0), ("len", 1), 6),), 1, 1), 0, [(x(0, 0), ("len", 1), 6)]),
    (("ask", ((x(0, 0), ("len", 1), 6),), 1, 1), 1, [(("len", 1), x(0, 0), -7)]),
    (("ask", ((ZERO, x(2, 0), -1),), 1, 1), 0, [(ZERO, x(2, 0), -1)]),
    (("ask", ((ZERO, x(2, 0), -1),), 1, 1), 1, [(x(2, 0), ZERO, 0)]),
    (("ask", FOUR, 1, 1), 0, list(FOUR)),
    (("ask", FOUR[2:], 1, 1), 0, list(FOUR[2:])),
    (("ask", FOUR, 1, 1), 1, []),
    (("ask", FOUR[:2], 1, 1), 1, []),
    (("ask", FOUR[:1] * 2, 1, 1), 0, list(FOUR[:1] * 2)),
    (("ask", FOUR[:1] * 2, 1, 1), 1, []),
]
# Done first of all here, these have the versions told when the lines above are done again behind them.
GIVING = [("set", 0, 0, 1, 1), ("take", 0, 2), ("sum", 1, 0, 0, 3), ("get", 0, 1, 1, 0, 4), ("tell", 2, 5)]
GIVEN = [
    (x(0, 1), x(0, 0), 1), (x(0, 0), x(0, 1), -1),
    (ZERO, x(1, 1), 0), (x(1, 1), ("len", 1), -1),
]
VERSIONS = [3, 1, 0]


def raised(node):
    return x(node[1], node[2] + VERSIONS[node[1]]) if node[0] == "name" else node


def facts_otherwise(program, steps):
    """The facts told by a table of texts, in which 1 to 5 stand for what stands in the line behind its word."""
    table = {
        "set": ("+1 2 3", "2 +1 -3"), "len": ("+1 r2 0", "r2 +1 0"),
        "get": ("0 3 4", "3 r2 !4"), "put": ("0 2 3", "2 r1 !3"), "test": ("1 2 3",), "not test": ("2 1 !3",),
    }
    seen = [0] * program[0]
    facts = [(ZERO, ("len", row), 0) for row in range(program[1])]
    for at, which in steps:
        line = program[2][at]

        def node(word):
            if word[0] == "r":
                return ("len", line[int(word[1])])
            if word == "0" or line[int(word[-1])] is None:
                return ZERO
            return x(line[int(word[-1])], seen[line[int(word[-1])]] + (word[0] == "+"))

        def number(word):
            worth = 0 if word == "0" else line[int(word[-1])]
            return {"-": -worth, "!": -1 - worth}.get(word[0], worth)

        if line[0] == "ask":
            bounds = [tuple(x(p[1], seen[p[1]]) if p[0] == "name" else p for p in b[:2]) + b[2:] for b in line[1]]
            facts += bounds if which == 0 else [(b, a, -c - 1) for a, b, c in bounds if len(bounds) == 1]
        for row in table.get("not " * which + line[0], ()):
            a, b, c = row.split(" ")
            facts.append((node(a), node(b), number(c)))
        if line[0] in ("set", "sum", "len", "take", "get"):
            seen[line[1]] += 1
    return facts


class TrailFacts(unittest.TestCase):
    def test_lengths_alone(self):
        for rows in range(4):
            lengths = [(ZERO, ("len", row), 0) for row in range(rows)]
            for names in (0, 1, 6):
                told = facts_of((names, rows, [END]), [])
                self.assertEqual(told, lengths)
                self.assertEqual(kinds_of(told), kinds_of(lengths))

    def test_each_line_by_each_way(self):
        for line, which, facts in FIRST:
            program = (3, 2, [line, END])
            steps = [(0, which)]
            told = facts_of(program, steps)
            self.assertEqual(told, LENGTHS + facts, (line, which))
            self.assertEqual(kinds_of(told), kinds_of(LENGTHS + facts), (line, which))
            self.assertEqual((program, steps), ((3, 2, [line, END]), [(0, which)]))

    def test_each_word_is_among_them(self):
        done = {(line[0], which) for line, which, facts in FIRST}
        words = "set sum len take get put tell".split()
        self.assertEqual(done, {(word, 0) for word in words} | {(w, k) for w in ("test", "ask") for k in (0, 1)})

    def test_each_line_behind_names_given(self):
        steps = [(at, 0) for at in range(5)]
        for line, which, facts in FIRST:
            program = (3, 2, GIVING + [line[:-1] + (6,), END])
            later = [(raised(a), raised(b), c) for a, b, c in facts]
            self.assertEqual(facts_of(program, steps), LENGTHS + GIVEN, line)
            self.assertEqual(facts_of(program, steps + [(5, which)]), LENGTHS + GIVEN + later, line)

    def test_a_name_given_by_itself_again_and_again(self):
        program = (1, 0, [("set", 0, 0, 2, 1), ("test", 0, None, 9, 0, 2), END])
        told = facts_of(program, [(0, 0), (1, 0), (0, 0), (1, 0), (0, 0), (1, 1)])
        self.assertEqual(told, [
            (x(0, 1), x(0, 0), 2), (x(0, 0), x(0, 1), -2), (x(0, 1), ZERO, 9),
            (x(0, 2), x(0, 1), 2), (x(0, 1), x(0, 2), -2), (x(0, 2), ZERO, 9),
            (x(0, 3), x(0, 2), 2), (x(0, 2), x(0, 3), -2), (ZERO, x(0, 3), -10),
        ])

    def test_a_get_that_gives_its_own_place(self):
        program = (1, 1, [("get", 0, 0, 0, 2, 0)])
        self.assertEqual(facts_of(program, [(0, 0), (0, 0)]), [
            LENGTHS[0], (ZERO, x(0, 0), 2), (x(0, 0), ("len", 0), -3), (ZERO, x(0, 1), 2), (x(0, 1), ("len", 0), -3),
        ])

    def test_an_asks_names_in_the_versions_of_there(self):
        bounds = ((x(0, 0), x(1, 0), -1), (x(1, 0), ("len", 0), 0), (ZERO, x(0, 0), 0))
        program = (2, 1, [("take", 0, 1), ("ask", bounds, 2, 0), ("take", 1, 3), ("take", 0, 1)])
        told = facts_of(program, [(0, 0), (1, 1), (0, 0), (1, 0), (2, 0), (3, 0), (1, 0), (2, 0)])
        self.assertEqual(told, [
            LENGTHS[0],
            (x(0, 2), x(1, 0), -1), (x(1, 0), ("len", 0), 0), (ZERO, x(0, 2), 0),
            (x(0, 3), x(1, 1), -1), (x(1, 1), ("len", 0), 0), (ZERO, x(0, 3), 0),
        ])
        program[2][1] = ("ask", bounds[:1], 2, 0)
        told = facts_of(program, [(0, 0), (1, 1), (0, 0), (1, 1)])
        self.assertEqual(told, [LENGTHS[0], (x(1, 0), x(0, 1), 0), (x(1, 0), x(0, 2), 0)])

    def test_steps_from_a_line_that_is_no_cut_or_not_come_to(self):
        program = (2, 0, [("take", 0, 1), ("set", 1, 0, 1, 2), END, ("set", 0, 1, 1, 4), ("test", 0, 1, 0, 1, 3)])
        self.assertEqual(facts_of(program, [(1, 0)]), [(x(1, 1), x(0, 0), 1), (x(0, 0), x(1, 1), -1)])
        self.assertEqual(facts_of(program, [(4, 1), (3, 0), (4, 0)]), [
            (x(1, 0), x(0, 0), -1), (x(0, 1), x(1, 0), 1), (x(1, 0), x(0, 1), -1), (x(0, 1), x(1, 0), 0),
        ])

    def test_two_hundred_steps_through_cuts(self):
        program = (2, 1, [("len", 1, 0, 1), ("set", 0, 0, -1, 1)])
        told = facts_of(program, [(0, 0)] + [(1, 0)] * 199)
        facts = [LENGTHS[0], (x(1, 1), ("len", 0), 0), (("len", 0), x(1, 1), 0)]
        for version in range(199):
            facts += [(x(0, version + 1), x(0, version), -1), (x(0, version), x(0, version + 1), 1)]
        self.assertEqual(told, facts)

    def test_as_told_otherwise(self):
        chance = random.Random(24)
        seen = 0
        for count in range(400):
            program = random_program(chance) if count % 2 else winding_program(chance)
            before = copy.deepcopy(program)
            for start in range(len(program[2])):
                steps = random_ways(chance, program, start, chance.choice((1, 3, 10, 200)))
                told = facts_of(program, steps)
                self.assertEqual(told, facts_otherwise(program, steps), (program, steps))
                seen = max(seen, len(told))
            self.assertEqual(program, before)
        self.assertGreater(seen, 150)


class Own(unittest.TestCase):
    def test_what_is_told_is_the_askers_own(self):
        bounds = FOUR[:2]
        program = (3, 2, [("take", 1, 1), ("ask", bounds, 0, 0)])
        for again in range(2):
            told = facts_of(program, [(0, 0), (1, 0)])
            self.assertEqual(told, LENGTHS + [(x(1, 1), x(0, 0), -1), (ZERO, x(0, 0), 0)])
            told.clear()
            told = facts_of(program, [])
            self.assertEqual(told, LENGTHS)
            told.append("changed")

    def test_what_was_told_stays_behind_a_change(self):
        program = (3, 2, [("set", 1, 1, 1, 0)])
        steps = [(0, 0)]
        told = facts_of(program, steps)
        before = copy.deepcopy(told)
        program[2][0] = ("set", 1, 2, 1, 0)
        steps.append((0, 0))
        self.assertEqual(told, before)
        self.assertEqual(facts_of(program, steps)[2], (x(1, 1), x(2, 0), 1))

    def test_a_trails_steps_are_the_askers(self):
        program = (1, 0, [("take", 0, 1), ("test", 0, None, 4, 2, 2), END])
        steps = trail(program, 1)[1]
        steps.append((1, 1))
        self.assertEqual(facts_of(program, steps), [(ZERO, x(0, 1), -5)])
        self.assertEqual(steps, [(0, 0), (1, 1)])
        self.assertEqual(trail(program, 1), (0, [(0, 0)]))

    def test_by_turns(self):
        one = (1, 1, [("set", 0, 0, 1, 0)])
        other = (2, 0, [("set", 1, 0, 1, 0)])
        for again in range(2):
            self.assertEqual(
                facts_of(one, [(0, 0)]), [LENGTHS[0], (x(0, 1), x(0, 0), 1), (x(0, 0), x(0, 1), -1)])
            self.assertEqual(facts_of(other, [(0, 0)]), [(x(1, 1), x(0, 0), 1), (x(0, 0), x(1, 1), -1)])


if __name__ == "__main__":
    unittest.main()
