import copy
import itertools
import random
import unittest

from helper import COUNTING, END, LENGTH, RISING, SWAPPING, ZERO, all_hold, is_shown_by, kinds_of, random_claims
from helper import random_program, winding_program, x
from lookspare.claims import hold, kept
from lookspare.cuts import cuts, into
from lookspare.guesses import guesses


def row_of_cuts(order):
    """A program of one name that goes through the lines in this order; each is a cut."""
    lines = [END] * len(order)
    for at, after in zip(order, order[1:]):
        lines[at] = ("test", None, None, 0, after, after)
    return (1, 0, lines)


def parts_of(things):
    for count in range(len(things) + 1):
        yield from itertools.combinations(things, count)


def left_of(program, candidates):
    """What is kept, told otherwise: round by round, all that is not shown by all that was left."""
    left = [claim for claim in dict.fromkeys(candidates) if claim[0] in cuts(program)]
    while True:
        still = [claim for claim in left
                 if all(is_shown_by(program, left, claim, way) for way in into(program, claim[0]))]
        if still == left:
            return left
        left = still


class Kept(unittest.TestCase):
    def assert_kept(self, program, candidates, told):
        before = copy.deepcopy((program, candidates))
        self.assertEqual(kept(program, candidates), told, (program, candidates))
        self.assertEqual(kinds_of(kept(program, candidates)), kinds_of(told))
        self.assertEqual((program, candidates), before)
        self.assertIs(hold(program, told), True)

    def test_no_candidates(self):
        for program in (COUNTING, RISING, SWAPPING, (0, 0, [END])):
            self.assert_kept(program, [], [])

    def test_where_all_hold(self):
        self.assert_kept(RISING, [(0, (ZERO, x(0), 0))], [(0, (ZERO, x(0), 0))])
        candidates = [(1, (x(0), LENGTH, 0)), (0, (x(0), ZERO, 0)), (1, (ZERO, x(0), 0)), (0, (x(1), x(0), 0))]
        self.assert_kept(COUNTING, candidates, candidates)
        self.assert_kept(COUNTING, list(reversed(candidates)), list(reversed(candidates)))

    def test_where_none_holds(self):
        self.assert_kept(RISING, [(0, (x(0), ZERO, 0)), (0, (ZERO, x(0), -1))], [])
        self.assert_kept((1, 0, [END]), [(0, (ZERO, x(0), -1))], [])

    def test_where_some_fall(self):
        candidates = [(1, (x(0), ZERO, 5)), (1, (ZERO, x(0), 0)), (1, (x(1), x(0), 0)), (0, (x(0), ZERO, -1)),
                      (1, (x(0), LENGTH, -1)), (1, (x(0), LENGTH, 0)), (0, (x(0), ZERO, 0))]
        self.assert_kept(COUNTING, candidates, [candidates[1], candidates[5], candidates[6]])

    def test_a_row_of_many_that_lean_on_one(self):
        for count in (2, 3, 10, 70):
            for order in (list(range(count)), [0] + list(range(count - 1, 0, -1))):
                program = row_of_cuts(order)
                self.assertEqual(cuts(program), list(range(count)))
                right = [(line, (x(0), ZERO, 0)) for line in order]
                wrong = [(line, (x(0), ZERO, -1)) for line in order]
                self.assert_kept(program, wrong, [])
                self.assert_kept(program, wrong + right, right)
                self.assert_kept(program, list(reversed(right + wrong)), list(reversed(right)))
                # One that is missed in the middle lets all behind it fall.
                missed = right[:count // 2] + right[count // 2 + 1:]
                self.assert_kept(program, missed, right[:count // 2])

    def test_many_at_one_cut_fall_one_by_one(self):
        # The name rises: that it is at most c leans on that it is at most c - 1.
        for count in (1, 5, 2000):
            candidates = [(0, (x(0), ZERO, c)) for c in range(count)]
            self.assert_kept(RISING, candidates, [])
            self.assert_kept(RISING, list(reversed(candidates)) + [(0, (ZERO, x(0), 3))], [(0, (ZERO, x(0), 3))])
        # It rises up to 7, so from 8 on nothing falls.
        rising_to = (1, 0, [("test", 0, None, 7, 1, 0), ("set", 0, 0, 1, 0)])
        candidates = [(0, (x(0), ZERO, c)) for c in (12, 3, 8, 7, 10 ** 12, 0, -1, 9, -10 ** 12, 5)]
        left = [(0, (x(0), ZERO, c)) for c in (12, 8, 10 ** 12, 9)]
        self.assert_kept(rising_to, candidates, left)

    def test_two_that_hold_only_together(self):
        both = [(0, (ZERO, x(0), 0)), (0, (ZERO, x(1), 0))]
        self.assert_kept(SWAPPING, both, both)
        self.assert_kept(SWAPPING, both[:1], [])
        self.assert_kept(SWAPPING, both[1:], [])
        self.assert_kept(SWAPPING, [(0, (x(1), ZERO, 0))] + both, both)
        unlike = [(0, (ZERO, x(0), 0)), (0, (ZERO, x(1), -1))]
        self.assert_kept(SWAPPING, unlike, [])
        # Name 0 may be as far below 0 as name 1; of unlike c those count that lean on one another.
        self.assert_kept(SWAPPING, [(0, (ZERO, x(0), 4)), (0, (ZERO, x(1), 7))], [])
        three = [(0, (ZERO, x(0), 7)), (0, (ZERO, x(0), 4)), (0, (ZERO, x(1), 7))]
        self.assert_kept(SWAPPING, three, [three[0], three[2]])

    def test_told_twice(self):
        one, other, wrong = (1, (ZERO, x(0), 0)), (1, (x(0), LENGTH, 0)), (1, (x(0), ZERO, 5))
        self.assert_kept(COUNTING, [one, one], [one])
        self.assert_kept(COUNTING, [other, one, other, one, one], [other, one])
        self.assert_kept(COUNTING, [wrong, one, wrong, other, one], [one, other])
        self.assert_kept(COUNTING, [wrong] * 3, [])
        # Alike in their bound, not in their line.
        self.assert_kept(COUNTING, [one, (0, one[1]), one, (0, one[1])], [one, (0, one[1])])

    def test_at_lines_that_are_no_cuts(self):
        right = (ZERO, x(0), 0)
        for line in (2, 3, 4, 5, 6, 70, -1):
            self.assertNotIn(line, cuts(COUNTING))
            self.assert_kept(COUNTING, [(line, right)], [])
            self.assert_kept(COUNTING, [(line, right), (1, right), (line, (x(0), ZERO, -9))], [(1, right)])
        # They show nothing: line 4 is on the trail back to line 1.
        self.assert_kept(COUNTING, [(4, (x(0), ZERO, 4)), (1, (x(0), ZERO, 5))], [])
        # Line 1 has two ways in, but from lines that are not come to.
        self.assert_kept((1, 0, [END, ("tell", 0, 1), ("tell", 0, 1)]), [(1, right), (0, right)], [(0, right)])

    def test_in_another_order_the_same_are_kept(self):
        candidates = [(1, (x(0), ZERO, 5)), (1, (ZERO, x(0), 0)), (1, (x(1), x(0), 0)), (0, (x(0), ZERO, 0)),
                      (1, (x(0), LENGTH, 0)), (2, (ZERO, x(0), 0))]
        left = [candidates[1], candidates[3], candidates[4]]
        for order in itertools.permutations(candidates):
            self.assert_kept(COUNTING, list(order), [claim for claim in order if claim in left])

    def test_shown_by_a_ring(self):
        # No run comes to line 1, so at line 2 anything holds, as long as a ring is known there for its way back.
        never = (2, 1, [("test", None, None, -1, 1, 3), ("test", 0, 1, 0, 2, 2), ("take", 0, 2), END])
        ring = (2, (ZERO, ZERO, -1))
        odd = [(2, (x(0), x(1), -10 ** 12)), (2, (x(5), ("len", 2), 0)), (2, (LENGTH, ZERO, -1))]
        self.assert_kept(never, odd + [ring], odd + [ring])
        self.assert_kept(never, odd[:1], [])
        # The length is below nought: a ring with what is known of it.
        self.assert_kept(never, odd, odd)
        self.assert_kept(never, [ring, (0, (ZERO, ZERO, -1))], [ring])

    def test_names_and_rows_that_the_program_lacks(self):
        odd = [(0, (x(5), ZERO, 10 ** 12)), (0, (ZERO, ("len", 2), 0)), (0, (x(5), x(5), 0)), (0, (x(4), x(4), -1))]
        self.assert_kept(RISING, odd, [odd[2]])

    def test_many_candidates(self):
        chance = random.Random(2000)
        for count in range(4):
            program = winding_program(chance)
            candidates = random_claims(chance, program, 2000)
            left = kept(program, candidates)
            self.assertIs(hold(program, left), True)
            self.assertEqual(kept(program, left), left)
            self.assertEqual(kept(program, candidates + left), left)

    def test_the_greatest_part_of_all(self):
        chance = random.Random(31)
        seen = {}
        for count in range(120):
            program = winding_program(chance) if count % 2 else random_program(chance)
            at_cuts = chance.sample(guesses(program), min(5, len(guesses(program))))
            candidates = at_cuts + random_claims(chance, program, 2)
            chance.shuffle(candidates)
            holding = [part for part in parts_of([claim for claim in candidates if claim[0] in cuts(program)])
                       if all_hold(program, part)]
            greatest = [claim for claim in dict.fromkeys(candidates) if any(claim in part for part in holding)]
            self.assert_kept(program, candidates, greatest)
            seen[len(greatest)] = seen.get(len(greatest), 0) + 1
        self.assertGreater(len(seen), 4)

    def test_of_programs_made(self):
        chance = random.Random(310)
        fell = left = 0
        for count in range(150):
            program = winding_program(chance) if count % 2 else random_program(chance)
            candidates = chance.sample(guesses(program), min(25, len(guesses(program))))
            candidates += random_claims(chance, program, 5)
            told = left_of(program, candidates)
            self.assert_kept(program, candidates, told)
            fell += len(candidates) - len(told)
            left += len(told)
        self.assertGreater(min(fell, left), 500)

    def test_lists_are_the_askers_own(self):
        candidates = [(1, (ZERO, x(0), 0)), (1, (x(0), ZERO, 5)), (1, (x(0), LENGTH, 0))]
        before = list(candidates)
        told = kept(COUNTING, candidates)
        told.append("more")
        told[0] = "other"
        self.assertEqual(kept(COUNTING, candidates), [before[0], before[2]])
        self.assertEqual(candidates, before)
        alike = kept(COUNTING, [before[0]])
        self.assertIsNot(alike, kept(COUNTING, [before[0]]))

    def test_by_turns_and_behind_a_change(self):
        candidates = [(0, (ZERO, x(0), 0)), (0, (x(0), ZERO, 0))]
        falling = (1, 0, [("set", 0, 0, -1, 0)])
        for again in range(2):
            self.assertEqual(kept(RISING, candidates), candidates[:1])
            self.assertEqual(kept(falling, candidates), candidates[1:])
        told = kept(falling, candidates)
        falling[2][0] = ("set", 0, 0, 0, 0)
        self.assertEqual(told, candidates[1:])
        self.assertEqual(kept(falling, candidates), candidates)
        candidates.reverse()
        self.assertEqual(told, [(0, (x(0), ZERO, 0))])


if __name__ == "__main__":
    unittest.main()
