import random
import unittest

from helper import WALKS, ZERO, are_so, course_of, number_of, random_program, winding_program, x
from lookspare.cuts import cuts
from lookspare.lines import gives, ways
from lookspare.trails import at_end, facts_of, trail, versions

def numbers_along(program, steps, seen):
    """The value that each name had in each of its versions; seen are the values ahead of each step and at the end."""
    counts = [0] * program[0]
    numbers = {x(name): value for name, value in enumerate(seen[0])}
    for (at, which), behind in zip(steps, seen[1:]):
        name = gives(program[2][at])
        if name is not None:
            counts[name] += 1
            numbers["name", name, counts[name]] = behind[name]
    return numbers


class FactsOnWalks(unittest.TestCase):
    def assert_facts_are_so(self, program, steps, seen, rows):
        facts = facts_of(program, steps)
        numbers = numbers_along(program, steps, seen)
        for fact in facts:
            self.assertTrue(are_so([fact], numbers, rows), (program, steps, fact, numbers))
        for name, value in enumerate(seen[-1]):
            self.assertEqual(numbers["name", name, versions(program, steps)[name]], value, (program, steps))
            self.assertEqual(number_of(at_end(program, steps, (x(name), ZERO, 0))[0], numbers, rows), value)
        return len(facts) - program[1]

    def assert_walk(self, chance, program, rows, taken, budget):
        gone, seen = course_of(program, rows, taken, budget)
        for (at, which), after in zip(gone, gone[1:]):
            self.assertEqual(ways(program[2][at])[which], after[0])
        shown = 0
        for start in sorted(chance.sample(range(len(gone) + 1), min(4, len(gone) + 1))):
            for most in (1, 5, 200):
                steps = gone[start:start + most]
                shown += self.assert_facts_are_so(program, steps, seen[start:start + most + 1], rows)
        return shown + self.assert_trails(program, gone, seen, rows)

    def assert_trails(self, program, gone, seen, rows):
        """At each line come to, the walk went its trail last, and the trail's facts are so."""
        shown = 0
        for count in range(len(gone) + 1):
            line = ways(program[2][gone[count - 1][0]])[gone[count - 1][1]] if count else 0
            cut, steps = trail(program, line)
            first = count - len(steps)
            self.assertEqual(gone[first:count], steps)
            self.assertIn(cut, cuts(program))
            shown += self.assert_facts_are_so(program, steps, seen[first:count + 1], rows)
        return shown

    def test_long_walks(self):
        chance = random.Random(25)
        for program, rows, taken in WALKS:
            for budget in (0, 1, 10, 150):
                self.assert_walk(chance, program, rows, taken, budget)
        self.assertGreater(self.assert_walk(chance, *WALKS[0], 150), 100)
        self.assertGreater(self.assert_walk(chance, *WALKS[3], 150), 100)

    def test_random_walks(self):
        chance = random.Random(250)
        shown = 0
        for count in range(400):
            program = random_program(chance) if count % 2 else winding_program(chance)
            rows = [[chance.randint(-4, 9) for thing in range(chance.choice((0, 3, 12)))] for row in range(program[1])]
            taken = [chance.randint(-5, 9) for number in range(8)]
            shown += self.assert_walk(chance, program, rows, taken, 40)
        self.assertGreater(shown, 5000)

    def test_facts_of_a_way_not_gone_are_not_all_so(self):
        # So the walks would show it, were the facts of a test's or an ask's two ways told for one another.
        broken = {}
        for program, rows, taken in WALKS:
            gone, seen = course_of(program, rows, taken, 100)
            for (at, which), values in zip(gone, seen):
                if len(ways(program[2][at])) == 2:
                    facts = facts_of(program, [(at, 1 - which)])
                    so = are_so(facts, {x(name): value for name, value in enumerate(values)}, rows)
                    several = program[2][at][0] == "ask" and len(program[2][at][1]) > 1
                    self.assertEqual(so, several and which == 0, (program, at, which))
                    broken[program[2][at][0], which, several] = True
        self.assertEqual(len(broken), 6)


if __name__ == "__main__":
    unittest.main()
