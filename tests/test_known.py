import copy
import random
import unittest

from helper import COUNTING, END, LENGTH, ZERO, kinds_of, random_claims, random_program, winding_program, x
from lookspare.claims import known, known_at
from lookspare.cuts import come_to, into
from lookspare.trails import facts_of, trail, trail_by

HAS_LENGTH = (ZERO, LENGTH, 0)

# The facts of COUNTING's lines 1 to 4 behind one another.
LEN_FACTS = [(x(1, 1), LENGTH, 0), (LENGTH, x(1, 1), 0)]
BELOW = (x(0), x(1, 1), -1)
PASSED = [(ZERO, x(0), 0), (x(0), LENGTH, -1)]
COUNTED = [(x(0, 1), x(0), 1), (x(0), x(0, 1), -1)]

CLAIMS = [
    (1, (x(0), LENGTH, 7)),
    (0, (x(1), ZERO, 3)),
    (2, (x(0), x(1), 11)),
    (1, (ZERO, x(0), 0)),
    (5, (ZERO, x(1), 12)),
    (1, (x(0), LENGTH, 7)),
    (0, (ZERO, x(1), -4)),
    (1, (x(0), LENGTH, 6)),
    (4, (x(0), LENGTH, 13)),
    (99, (x(0), LENGTH, 14)),
    (-1, (x(0), LENGTH, 15)),
]
AT_0 = [(x(1), ZERO, 3), (ZERO, x(1), -4)]
AT_1 = [(x(0), LENGTH, 7), (ZERO, x(0), 0), (x(0), LENGTH, 7), (x(0), LENGTH, 6)]


class Known(unittest.TestCase):
    def assert_known(self, program, claims, way, told):
        before = copy.deepcopy((program, claims))
        self.assertEqual(known(program, claims, way), told)
        self.assertEqual(kinds_of(known(program, claims, way)), kinds_of(told))
        self.assertEqual((program, claims), before)

    def assert_known_at(self, program, claims, line, told):
        before = copy.deepcopy((program, claims))
        self.assertEqual(known_at(program, claims, line), told)
        self.assertEqual(kinds_of(known_at(program, claims, line)), kinds_of(told))
        self.assertEqual((program, claims), before)

    def test_at_the_begin(self):
        of_one = [(x(0), ZERO, 0), (ZERO, x(0), 0)]
        of_six = []
        for name in range(6):
            of_six += [(x(name), ZERO, 0), (ZERO, x(name), 0)]
        lengths = [(ZERO, ("len", row), 0) for row in range(3)]
        claims_there = [(0, (x(0), ZERO, -5)), (0, (ZERO, x(0), 0)), (1, (x(0), ZERO, 0))]
        for claims in ([], claims_there, CLAIMS):
            for rows in (0, 1, 3):
                self.assert_known((0, rows, [END]), claims, None, lengths[:rows])
                self.assert_known((1, rows, [END]), claims, None, of_one + lengths[:rows])
                self.assert_known((6, rows, [END]), claims, None, of_six + lengths[:rows])
            self.assert_known(COUNTING, claims, None, of_six[:4] + lengths[:1])
            # A way back to line 0 changes nothing of its begin.
            self.assert_known((1, 1, [("set", 0, 0, 1, 0)]), claims, None, of_one + lengths[:1])

    def test_by_a_way_from_a_cut(self):
        set_facts = [(x(0, 1), ZERO, 0), (ZERO, x(0, 1), 0)]
        self.assert_known(COUNTING, [], (0, 0), [HAS_LENGTH] + set_facts)
        self.assert_known(COUNTING, CLAIMS, (0, 0), AT_0 + [HAS_LENGTH] + set_facts)
        self.assert_known(COUNTING, CLAIMS, (1, 0), AT_1 + [HAS_LENGTH] + LEN_FACTS)

    def test_by_a_way_from_a_line_behind_a_cut(self):
        self.assert_known(COUNTING, CLAIMS, (2, 0), AT_1 + [HAS_LENGTH] + LEN_FACTS + [BELOW])
        against = (x(1, 1), x(0), 0)
        self.assert_known(COUNTING, CLAIMS, (2, 1), AT_1 + [HAS_LENGTH] + LEN_FACTS + [against])
        self.assert_known(COUNTING, CLAIMS, (3, 0), AT_1 + [HAS_LENGTH] + LEN_FACTS + [BELOW] + PASSED)

    def test_by_a_way_back(self):
        behind = [HAS_LENGTH] + LEN_FACTS + [BELOW] + PASSED + COUNTED
        self.assert_known(COUNTING, [], (4, 0), behind)
        self.assert_known(COUNTING, CLAIMS, (4, 0), AT_1 + behind)
        self.assert_known(COUNTING, list(reversed(CLAIMS)), (4, 0), list(reversed(AT_1)) + behind)
        # Back to line 0, which has claims of its own.
        ring = (1, 0, [("set", 0, 0, 1, 0)])
        self.assert_known(ring, [(0, (ZERO, x(0), 0))], (0, 0), [(ZERO, x(0), 0)] + COUNTED)

    def test_by_each_way_of_one_line(self):
        # Both ways of line 0 lead to line 1, and are told apart.
        program = (1, 0, [("test", 0, None, 4, 1, 1), END])
        claims = [(1, (x(0), ZERO, 9)), (0, (x(0), ZERO, 8))]
        self.assert_known(program, claims, (0, 0), [(x(0), ZERO, 8), (x(0), ZERO, 4)])
        self.assert_known(program, claims, (0, 1), [(x(0), ZERO, 8), (ZERO, x(0), -5)])

    def test_at_lines(self):
        # Line 0's trail has no steps; it is not the begin, where names are known to be 0.
        self.assert_known_at(COUNTING, [], 0, [HAS_LENGTH])
        self.assert_known_at(COUNTING, CLAIMS, 0, AT_0 + [HAS_LENGTH])
        self.assert_known_at(COUNTING, [], 1, [HAS_LENGTH])
        self.assert_known_at(COUNTING, CLAIMS, 1, AT_1 + [HAS_LENGTH])
        self.assert_known_at(COUNTING, CLAIMS, 2, AT_1 + [HAS_LENGTH] + LEN_FACTS)
        self.assert_known_at(COUNTING, CLAIMS, 3, AT_1 + [HAS_LENGTH] + LEN_FACTS + [BELOW])
        self.assert_known_at(COUNTING, CLAIMS, 4, AT_1 + [HAS_LENGTH] + LEN_FACTS + [BELOW] + PASSED)
        against = (x(1, 1), x(0), 0)
        self.assert_known_at(COUNTING, CLAIMS, 5, AT_1 + [HAS_LENGTH] + LEN_FACTS + [against])
        self.assert_known_at((0, 0, [END]), CLAIMS, 0, AT_0)
        self.assert_known_at((0, 3, [END]), [], 0, [(ZERO, ("len", row), 0) for row in range(3)])

    def test_many_claims_with_great_numbers(self):
        claims = [(count % 3, (x(count % 6), ("len", count % 3), (-1) ** count * 10 ** 12)) for count in range(2100)]
        at_1 = [bound for line, bound in claims if line == 1]
        self.assertEqual(len(at_1), 700)
        self.assert_known_at(COUNTING, claims, 1, at_1 + [HAS_LENGTH])
        self.assert_known(COUNTING, claims, (1, 0), at_1 + [HAS_LENGTH] + LEN_FACTS)

    def test_of_programs_made(self):
        chance = random.Random(28)
        seen = 0
        for count in range(200):
            program = random_program(chance) if count % 2 else winding_program(chance)
            claims = random_claims(chance, program, 20)
            for line in come_to(program):
                cut, steps = trail(program, line)
                there = [bound for at, bound in claims if at == cut]
                self.assert_known_at(program, claims, line, there + facts_of(program, steps))
                for way in into(program, line):
                    if way is not None:
                        cut, steps = trail_by(program, way)
                        there = [bound for at, bound in claims if at == cut]
                        self.assert_known(program, claims, way, there + facts_of(program, steps))
                        seen += len(there)
        self.assertGreater(seen, 500)

    def test_lists_are_the_askers_own(self):
        claims = list(CLAIMS)
        for ask in (lambda: known(COUNTING, claims, None), lambda: known(COUNTING, claims, (4, 0)),
                    lambda: known_at(COUNTING, claims, 0), lambda: known_at(COUNTING, claims, 3)):
            told = ask()
            kept = list(told)
            told.append("more")
            told[0] = "other"
            self.assertEqual(ask(), kept)
        self.assertEqual(claims, CLAIMS)
        self.assertEqual(COUNTING[2][5], END)

    def test_by_turns_and_behind_a_change(self):
        one = (1, 0, [("set", 0, 0, 1, 0)])
        other = (1, 1, [("set", 0, 0, -1, 0)])
        claims = [(0, (ZERO, x(0), 0))]
        for again in range(2):
            self.assertEqual(known(one, claims, (0, 0)), [(ZERO, x(0), 0)] + COUNTED)
            down = [(x(0, 1), x(0), -1), (x(0), x(0, 1), 1)]
            self.assertEqual(known(other, claims, (0, 0)), [(ZERO, x(0), 0), HAS_LENGTH] + down)
            self.assertEqual(known(other, [], (0, 0)), [HAS_LENGTH] + down)
        told = known(one, claims, (0, 0))
        at_line = known_at(one, claims, 0)
        claims.append((0, (x(0), ZERO, 8)))
        one[2][0] = ("take", 0, 0)
        self.assertEqual(told, [(ZERO, x(0), 0)] + COUNTED)
        self.assertEqual(at_line, [(ZERO, x(0), 0)])
        self.assertEqual(known(one, claims, (0, 0)), [(ZERO, x(0), 0), (x(0), ZERO, 8)])


if __name__ == "__main__":
    unittest.main()
