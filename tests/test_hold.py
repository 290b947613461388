import copy
import itertools
import random
import unittest

from helper import COUNTING, END, LENGTH, NEVER, RISING, SWAPPING, ZERO, all_hold, random_claims, random_program
from helper import winding_program, x
from lookspare.claims import hold
from lookspare.cuts import cuts

# Name 1 becomes 5 by one way, 7 by the other; the ways meet at line 3.
MEETING = (2, 0, [("test", 0, 1, 0, 1, 2), ("set", 1, None, 5, 3), ("set", 1, None, 7, 3), ("tell", 1, 4), END])


class Hold(unittest.TestCase):
    def assert_hold(self, program, claims, told):
        before = copy.deepcopy((program, claims))
        self.assertIs(hold(program, claims), told, (program, claims))
        self.assertIs(all_hold(program, claims), told, (program, claims))
        self.assertEqual((program, claims), before)

    def test_no_claims(self):
        for program in (COUNTING, MEETING, RISING, SWAPPING, NEVER, (0, 0, [END]), (6, 3, [END])):
            self.assert_hold(program, [], True)

    def test_a_claim_that_each_way_shows(self):
        self.assert_hold(COUNTING, [(1, (ZERO, x(0), 0))], True)
        self.assert_hold(COUNTING, [(1, (x(0), LENGTH, 0))], True)
        self.assert_hold(MEETING, [(3, (x(1), ZERO, 7))], True)
        self.assert_hold(MEETING, [(3, (x(1), ZERO, 8))], True)
        self.assert_hold(MEETING, [(3, (ZERO, x(1), -5))], True)
        self.assert_hold(MEETING, [(3, (ZERO, x(1), -5)), (3, (x(1), ZERO, 7))], True)
        # By facts of the trail alone, and for a bound of a node and itself by no fact.
        self.assert_hold((0, 1, [END]), [(0, (ZERO, LENGTH, 0)), (0, (LENGTH, LENGTH, 0))], True)
        self.assert_hold(MEETING, [(3, (x(0), x(0), 0))], True)

    def test_a_claim_that_all_ways_but_one_show(self):
        self.assert_hold(MEETING, [(3, (x(1), ZERO, 6))], False)
        self.assert_hold(MEETING, [(3, (ZERO, x(1), -6))], False)
        self.assert_hold(MEETING, [(3, (x(1), ZERO, 7)), (3, (ZERO, x(1), -6))], False)
        self.assert_hold(MEETING, [(3, (ZERO, x(1), -6)), (3, (x(1), ZERO, 7))], False)
        # Of four ways into line 7 just one breaks it, whichever it is.
        for numbers in itertools.permutations((1, 2, 3, 4)):
            tests = [("test", 1, None, 0, 1, 2), ("test", 2, None, 0, 3, 4), ("test", 3, None, 0, 5, 6)]
            program = (4, 0, tests + [("set", 0, None, number, 7) for number in numbers] + [END])
            self.assertEqual(cuts(program), [0, 7])
            self.assert_hold(program, [(7, (x(0), ZERO, 4))], True)
            self.assert_hold(program, [(7, (x(0), ZERO, 3))], False)
            self.assert_hold(program, [(7, (ZERO, x(0), -1))], True)
            self.assert_hold(program, [(7, (ZERO, x(0), -2))], False)

    def test_at_line_0(self):
        self.assert_hold((1, 0, [END]), [(0, (x(0), ZERO, 0)), (0, (ZERO, x(0), 0))], True)
        self.assert_hold((1, 0, [END]), [(0, (x(0), ZERO, -1))], False)
        self.assert_hold((2, 0, [END]), [(0, (x(0), x(1), 0))], True)
        self.assert_hold((2, 0, [END]), [(0, (x(0), x(1), -1))], False)
        self.assert_hold((1, 1, [END]), [(0, (x(0), LENGTH, 0))], True)
        self.assert_hold((1, 1, [END]), [(0, (LENGTH, x(0), 5))], False)
        # The way back shows that the name stays at least 1; the begin doesn't.
        self.assert_hold(RISING, [(0, (ZERO, x(0), -1))], False)
        # The begin shows that it is at most 0, or 5; the way back doesn't.
        self.assert_hold(RISING, [(0, (x(0), ZERO, 0))], False)
        self.assert_hold(RISING, [(0, (x(0), ZERO, 5))], False)
        self.assert_hold(RISING, [(0, (ZERO, x(0), 0))], True)

    def test_claims_that_show_one_another(self):
        both = [(0, (ZERO, x(0), 0)), (0, (ZERO, x(1), 0))]
        self.assert_hold(SWAPPING, both, True)
        self.assert_hold(SWAPPING, list(reversed(both)), True)
        self.assert_hold(SWAPPING, both[:1], False)
        self.assert_hold(SWAPPING, both[1:], False)
        self.assert_hold(SWAPPING, both + [(0, (ZERO, x(2), 0))], True)
        # At two cuts.
        lines = [("test", 0, 1, 0, 1, 1), ("set", 1, 0, 1, 2), ("set", 0, 1, 0, 0)]
        both = [(0, (ZERO, x(0), 0)), (1, (ZERO, x(0), 0))]
        self.assertEqual(cuts((2, 0, lines)), [0, 1])
        self.assert_hold((2, 0, lines), both, True)
        self.assert_hold((2, 0, lines), both[:1], False)
        self.assert_hold((2, 0, lines), both[1:], False)

    def test_claims_at_lines_that_are_no_cuts(self):
        right, wrong = (ZERO, x(0), 0), (x(0), ZERO, -7)
        for line in (2, 3, 4, 5, 6, 99, -1):
            self.assertNotIn(line, cuts(COUNTING))
            self.assert_hold(COUNTING, [(line, right)], True)
            self.assert_hold(COUNTING, [(line, wrong)], True)
            self.assert_hold(COUNTING, [(line, wrong), (1, right)], True)
            # It shows nothing, either.
            self.assert_hold(COUNTING, [(line, wrong), (1, (x(0), ZERO, 3))], False)
        self.assert_hold(COUNTING, [(4, (x(0), ZERO, -8)), (1, (x(0), ZERO, 0))], False)
        # Lines 1 and 2 are not come to, and lead into line 1.
        there = (1, 0, [END, ("tell", 0, 1), ("tell", 0, 1)])
        self.assert_hold(there, [(1, wrong), (2, wrong)], True)

    def test_a_claim_shown_by_a_ring(self):
        self.assertEqual(cuts(NEVER), [0, 2])
        for bound in ((ZERO, ZERO, -1), (x(0), x(1), -10 ** 12), (x(5), ("len", 2), 0), (LENGTH, ZERO, -1)):
            self.assert_hold(NEVER, [(2, (ZERO, ZERO, -1)), (2, bound)], True)
        # The way from line 2 to itself has no ring but by a claim.
        self.assert_hold(NEVER, [(2, (x(0), x(1), -1))], True)
        self.assert_hold(NEVER, [(2, (ZERO, x(0), -1))], True)
        self.assert_hold(NEVER, [(0, (ZERO, ZERO, -1))], False)
        self.assert_hold(NEVER, [(0, (ZERO, ZERO, -1)), (2, (ZERO, ZERO, -1))], False)
        # Two facts that can't be so at once: name 0 is 3, and at most 2.
        lines = [("set", 0, None, 3, 1), ("test", 0, None, 2, 2, 4), ("test", 0, 1, 0, 3, 3), END, END]
        self.assert_hold((2, 0, lines), [(3, (ZERO, ZERO, -1)), (3, (x(1), x(0), -50))], True)
        lines[1] = ("test", 0, None, 3, 2, 4)
        self.assert_hold((2, 0, lines), [(3, (ZERO, ZERO, -1))], False)
        self.assert_hold((2, 0, lines), [(3, (x(1), x(0), -50))], False)

    def test_a_ring_of_claims(self):
        # Name 0 above 0 and below 0 at line 1, where no run comes to it; by these anything is shown behind it.
        lines = [("test", 0, None, -1, 1, 4), ("test", 0, 1, 0, 2, 2), ("take", 0, 3), ("test", 0, 1, 0, 1, 1), END]
        program = (2, 0, lines)
        self.assertEqual(cuts(program), [0, 1, 2])
        at_0 = [(0, (ZERO, x(0), 0))]
        self.assert_hold(program, at_0 + [(1, (ZERO, ZERO, -1))], False)
        self.assert_hold(program, at_0 + [(1, (ZERO, ZERO, -1)), (2, (ZERO, ZERO, -1))], True)
        apart = [(1, (ZERO, x(0), -1)), (1, (x(0), ZERO, -1)), (2, (ZERO, x(1), -1)), (2, (x(1), ZERO, 0))]
        self.assert_hold(program, at_0 + apart, True)
        self.assert_hold(program, apart, False)
        self.assert_hold(program, at_0 + apart[:3], False)
        self.assert_hold(program, at_0 + apart[1:], False)

    def test_names_given_on_the_trail(self):
        # What was so of the name ahead of the line that gives it is not of it behind.
        self.assert_hold((1, 0, [("take", 0, 0)]), [(0, (x(0), ZERO, 0))], False)
        self.assert_hold((2, 0, [("take", 0, 0)]), [(0, (x(1), ZERO, 0))], True)
        self.assert_hold((1, 0, [("set", 0, None, 0, 0)]), [(0, (x(0), ZERO, 0)), (0, (ZERO, x(0), 0))], True)
        self.assert_hold((1, 0, [("set", 0, None, 1, 0)]), [(0, (x(0), ZERO, 0))], False)
        self.assert_hold((1, 0, [("set", 0, None, 1, 0)]), [(0, (x(0), ZERO, 1))], True)
        # Given twice on the trail: the last one counts.
        twice = (1, 0, [("set", 0, None, 9, 1), ("set", 0, None, 2, 0)])
        self.assert_hold(twice, [(0, (x(0), ZERO, 2))], True)
        self.assert_hold(twice, [(0, (x(0), ZERO, 1))], False)
        up_and_down = (1, 0, [("set", 0, 0, 4, 1), ("set", 0, 0, -4, 0)])
        self.assert_hold(up_and_down, [(0, (x(0), ZERO, 0)), (0, (ZERO, x(0), 0))], True)
        # Both names of a bound, given on the trail.
        lines = [("set", 0, 0, 1, 1), ("set", 1, 1, 1, 0)]
        self.assert_hold((2, 0, lines), [(0, (x(0), x(1), 0)), (0, (x(1), x(0), 0))], True)
        lines[1] = ("set", 1, 1, 2, 0)
        self.assert_hold((2, 0, lines), [(0, (x(0), x(1), 0))], True)
        self.assert_hold((2, 0, lines), [(0, (x(1), x(0), 0))], False)

    def test_sums_at_the_edge(self):
        # Along the trail the name rises by 3 and falls by 5.
        for c in (10 ** 12, 1000, 0, -5, -10 ** 12):
            lines = [("set", 0, None, 0, 1), ("test", 0, None, 5, 2, 2), ("set", 0, 0, 3, 3), ("set", 0, 0, -5, 4)]
            program = (2, 0, lines + [("test", 0, None, 7, 5, 5), END])
            self.assertEqual(cuts(program), [0, 2, 5])
            self.assert_hold(program, [(2, (x(0), ZERO, c)), (5, (x(0), ZERO, c - 2))], c >= 0)
            self.assert_hold(program, [(2, (x(0), ZERO, abs(c))), (5, (x(0), ZERO, abs(c) - 2))], True)
            self.assert_hold(program, [(2, (x(0), ZERO, abs(c))), (5, (x(0), ZERO, abs(c) - 3))], False)

    def test_names_and_rows_that_the_program_lacks(self):
        self.assert_hold((1, 0, [END]), [(0, (x(5), ZERO, 10 ** 12))], False)
        self.assert_hold((1, 0, [END]), [(0, (ZERO, ("len", 2), 0))], False)
        self.assert_hold((1, 0, [END]), [(0, (x(5), x(5), 0))], True)
        self.assert_hold((1, 0, [END]), [(0, (x(5), x(5), -1))], False)

    def test_many_claims(self):
        claims = [(0, (ZERO, x(0), count)) for count in range(1000)]
        claims += [(0, (ZERO, x(0), 10 ** 12 - count)) for count in range(1000)]
        self.assertIs(hold(RISING, claims), True)
        self.assertIs(hold(RISING, claims + [(0, (x(0), ZERO, 10 ** 12))]), False)
        self.assertIs(hold(RISING, [(0, (ZERO, x(0), -1))] + claims), False)

    def test_of_programs_made(self):
        chance = random.Random(30)
        counts = {True: 0, False: 0}
        for count in range(600):
            program = random_program(chance) if count % 2 else winding_program(chance)
            claims = random_claims(chance, program, chance.randint(1, 4))
            told = hold(program, claims)
            self.assert_hold(program, claims, told)
            counts[told] += any(line in cuts(program) for line, bound in claims)
        self.assertGreater(min(counts.values()), 40)

    def test_by_turns_and_behind_a_change(self):
        claims = [(0, (ZERO, x(0), 0))]
        falling = (1, 0, [("set", 0, 0, -1, 0)])
        for again in range(2):
            self.assertIs(hold(RISING, claims), True)
            self.assertIs(hold(falling, claims), False)
        falling[2][0] = ("set", 0, 0, 1, 0)
        self.assertIs(hold(falling, claims), True)
        claims.append((0, (x(0), ZERO, 0)))
        self.assertIs(hold(falling, claims), False)


if __name__ == "__main__":
    unittest.main()
