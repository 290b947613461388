import random
import unittest

from helper import WALKS, are_so, course_of, random_claims, random_program, winding_program, x
from lookspare.claims import hold, kept, known, known_at
from lookspare.cuts import cuts
from lookspare.guesses import guesses
from lookspare.lines import ways
from lookspare.trails import trail


def visits_of(program, gone, seen):
    """Each line that a walk comes to, asks among them, with the names' values then."""
    lines = [0] + [ways(program[2][at])[which] for at, which in gone]
    return list(zip(lines, seen))


class ClaimsOnWalks(unittest.TestCase):
    def assert_true_on_walk(self, program, claims, rows, taken, budget):
        """Tells how often a claim was asked for, at asks and elsewhere."""
        counts = {True: 0, False: 0}
        by_line = {}
        for line, bound in claims:
            by_line.setdefault(line, []).append(bound)
        for line, values in visits_of(program, *course_of(program, rows, taken, budget)):
            numbers = {x(name): value for name, value in enumerate(values)}
            for bound in by_line.get(line, []):
                self.assertTrue(are_so([bound], numbers, rows), (program, line, bound, values))
                counts[program[2][line][0] == "ask"] += 1
        return counts

    def test_walks_of_programs_written(self):
        at_asks = 0
        for program, rows, taken in WALKS:
            left = kept(program, guesses(program))
            self.assertIs(hold(program, left), True)
            self.assertGreater(len(left), 0)
            for budget in (0, 1, 7, 200):
                counts = self.assert_true_on_walk(program, left, rows, taken, budget)
                self.assertGreater(sum(counts.values()), 0)
                at_asks += counts[True]
        self.assertGreater(at_asks, 100)

    def test_walks_of_programs_made(self):
        chance = random.Random(27)
        total = {True: 0, False: 0}
        for count in range(500):
            program = random_program(chance) if count % 2 else winding_program(chance)
            candidates = guesses(program) + [claim for claim in random_claims(chance, program, 60)]
            left = kept(program, candidates)
            self.assertIs(hold(program, left), True)
            for again in range(3):
                rows = [[chance.randint(-4, 9) for thing in range(chance.choice((0, 3, 12)))]
                        for row in range(program[1])]
                taken = [chance.randint(-5, 9) for number in range(8)]
                counts = self.assert_true_on_walk(program, left, rows, taken, 60)
                for where in counts:
                    total[where] += counts[where]
        self.assertGreater(total[True], 1000)
        self.assertGreater(total[False], 20000)

    def test_what_the_begin_knows_is_so_there(self):
        chance = random.Random(280)
        for count in range(50):
            program = random_program(chance)
            rows = [[0] * chance.randint(0, 3) for row in range(program[1])]
            numbers = {x(name): 0 for name in range(program[0])}
            self.assertTrue(are_so(known(program, [], None), numbers, rows))

    def test_at_a_cut_what_is_known_is_so_at_each_visit(self):
        chance = random.Random(281)
        for program, rows, taken in WALKS:
            left = kept(program, guesses(program) + random_claims(chance, program, 100))
            for line, values in visits_of(program, *course_of(program, rows, taken, 100)):
                if line in cuts(program):
                    self.assertEqual(trail(program, line), (line, []))
                    numbers = {x(name): value for name, value in enumerate(values)}
                    self.assertTrue(are_so(known_at(program, left, line), numbers, rows))

    def test_candidates_that_are_not_so_at_a_visit_fall(self):
        fell = 0
        for program, rows, taken in WALKS:
            candidates = guesses(program)
            left = kept(program, candidates)
            for line, values in visits_of(program, *course_of(program, rows, taken, 100)):
                numbers = {x(name): value for name, value in enumerate(values)}
                for claim in candidates:
                    if claim[0] == line and not are_so([claim[1]], numbers, rows):
                        self.assertNotIn(claim, left)
                        fell += 1
        self.assertGreater(fell, 100)


if __name__ == "__main__":
    unittest.main()
