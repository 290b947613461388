import random
import unittest

from helper import ZERO, random_program, winding_program
from lookspare.cuts import cuts
from lookspare.lines import gives, ways
from lookspare.trails import at_end, facts_of, trail, versions
from lookspare.walks import Walk

END = ("end",)


def x(name):
    return ("name", name, 0)


# Programs whose walks go on for long, with their rows and what they take.
SUMMING = (3, 1, [
    ("len", 1, 0, 1),
    ("test", 0, 1, -1, 2, 6),
    ("get", 2, 0, 0, 0, 3),
    ("put", 0, None, 0, 2, 4),
    ("tell", 2, 5),
    ("set", 0, 0, 1, 1),
    END,
])
ASKING = (3, 2, [
    ("take", 0, 1),
    ("ask", ((ZERO, x(0), 0), (x(0), ("len", 0), -1)), 2, 6),
    ("get", 1, 0, 0, 0, 3),
    ("ask", ((x(1), x(2), 0),), 5, 4),
    ("set", 2, 1, 0, 5),
    ("sum", 0, 0, 1, 1),
    ("ask", ((x(0), ZERO, -2),), 8, 7),
    ("set", 0, 0, -3, 1),
    ("tell", 2, 0),
])
COUNTING = (2, 0, [("set", 0, None, 30, 1), ("test", None, 0, -1, 2, 3), ("set", 0, 0, -1, 1), ("take", 1, 0)])
WALKS = [
    (SUMMING, [[1, 2, 3, 4, 5]], []),
    (SUMMING, [[-7]], []),
    (SUMMING, [[]], []),
    (ASKING, [[0, 3, -1, 1, 2], []], [3, -1, 4, 10, 0, 2, -2, 7] * 9),
    (ASKING, [[5] * 40, [1]], [39, 12, 1, 0, -100]),
    (COUNTING, [], list(range(9))),
]


def number_of(node, numbers, rows):
    """The number of a node, numbers being a dict from names in their versions."""
    if node == ZERO:
        return 0
    return len(rows[node[1]]) if node[0] == "len" else numbers[node]


def are_so(bounds, numbers, rows):
    for a, b, c in bounds:
        if number_of(a, numbers, rows) - number_of(b, numbers, rows) > c:
            return False
    return True


def way_gone(program, at, values, rows):
    line = program[2][at]
    numbers = {x(name): value for name, value in enumerate(values)}
    if line[0] == "test":
        y, w = [ZERO if value is None else x(value) for value in line[1:3]]
        return (at, 0 if are_so([(y, w, line[3])], numbers, rows) else 1)
    return (at, 0 if line[0] != "ask" or are_so(line[1], numbers, rows) else 1)


def course_of(program, rows, taken, budget):
    """The ways that a walk goes, asks among them, with the names' values ahead of each and behind the last one."""
    walk = Walk(program, rows, taken, budget)
    gone = []
    seen = [walk.frame()[1]]
    while True:
        at, values = walk.frame()
        between = []
        while program[2][at][0] == "ask":
            between.append(way_gone(program, at, values, rows))
            at = ways(program[2][at])[between[-1][1]]
        way = way_gone(program, at, values, rows)
        walk.step()
        gone += between
        seen += [values] * len(between)
        if walk.told()[0] is not None:
            return gone, seen
        gone.append(way)
        seen.append(walk.frame()[1])


def numbers_along(program, steps, seen):
    """The value that each name had in each of its versions; seen are the values ahead of each step and at the end."""
    counts = [0] * program[0]
    numbers = {x(name): value for name, value in enumerate(seen[0])}
    for (at, which), behind in zip(steps, seen[1:]):
        name = gives(program[2][at])
        if name is not None:
            counts[name] += 1
            numbers["name", name, counts[name]] = behind[name]
    return numbers


class FactsOnWalks(unittest.TestCase):
    def assert_facts_are_so(self, program, steps, seen, rows):
        facts = facts_of(program, steps)
        numbers = numbers_along(program, steps, seen)
        for fact in facts:
            self.assertTrue(are_so([fact], numbers, rows), (program, steps, fact, numbers))
        for name, value in enumerate(seen[-1]):
            self.assertEqual(numbers["name", name, versions(program, steps)[name]], value, (program, steps))
            self.assertEqual(number_of(at_end(program, steps, (x(name), ZERO, 0))[0], numbers, rows), value)
        return len(facts) - program[1]

    def assert_walk(self, chance, program, rows, taken, budget):
        gone, seen = course_of(program, rows, taken, budget)
        for (at, which), after in zip(gone, gone[1:]):
            self.assertEqual(ways(program[2][at])[which], after[0])
        shown = 0
        for start in sorted(chance.sample(range(len(gone) + 1), min(4, len(gone) + 1))):
            for most in (1, 5, 200):
                steps = gone[start:start + most]
                shown += self.assert_facts_are_so(program, steps, seen[start:start + most + 1], rows)
        return shown + self.assert_trails(program, gone, seen, rows)

    def assert_trails(self, program, gone, seen, rows):
        """At each line come to, the walk went its trail last, and the trail's facts are so."""
        shown = 0
        for count in range(len(gone) + 1):
            line = ways(program[2][gone[count - 1][0]])[gone[count - 1][1]] if count else 0
            cut, steps = trail(program, line)
            first = count - len(steps)
            self.assertEqual(gone[first:count], steps)
            self.assertIn(cut, cuts(program))
            shown += self.assert_facts_are_so(program, steps, seen[first:count + 1], rows)
        return shown

    def test_long_walks(self):
        chance = random.Random(25)
        for program, rows, taken in WALKS:
            for budget in (0, 1, 10, 150):
                self.assert_walk(chance, program, rows, taken, budget)
        self.assertGreater(self.assert_walk(chance, *WALKS[0], 150), 100)
        self.assertGreater(self.assert_walk(chance, *WALKS[3], 150), 100)

    def test_random_walks(self):
        chance = random.Random(250)
        shown = 0
        for count in range(400):
            program = random_program(chance) if count % 2 else winding_program(chance)
            rows = [[chance.randint(-4, 9) for thing in range(chance.choice((0, 3, 12)))] for row in range(program[1])]
            taken = [chance.randint(-5, 9) for number in range(8)]
            shown += self.assert_walk(chance, program, rows, taken, 40)
        self.assertGreater(shown, 5000)

    def test_facts_of_a_way_not_gone_are_not_all_so(self):
        # So the walks would show it, were the facts of a test's or an ask's two ways told for one another.
        broken = {}
        for program, rows, taken in WALKS:
            gone, seen = course_of(program, rows, taken, 100)
            for (at, which), values in zip(gone, seen):
                if len(ways(program[2][at])) == 2:
                    facts = facts_of(program, [(at, 1 - which)])
                    so = are_so(facts, {x(name): value for name, value in enumerate(values)}, rows)
                    several = program[2][at][0] == "ask" and len(program[2][at][1]) > 1
                    self.assertEqual(so, several and which == 0, (program, at, which))
                    broken[program[2][at][0], which, several] = True
        self.assertEqual(len(broken), 6)


if __name__ == "__main__":
    unittest.main()
