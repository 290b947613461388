import copy
import random
import unittest

from helper import COUNTING, END, LENGTH, NEVER, RISING, SWAPPING, ZERO, kinds_of, random_claims, random_program
from helper import winding_program, wrong_with_ring, wrong_with_road, x
from lookspare.checker import check
from lookspare.claims import hold, kept, known
from lookspare.cuts import cuts, into
from lookspare.guesses import guesses
from lookspare.papers import papers_of
from lookspare.trails import at_end, trail_by


def wrong_with_ground(program, claims, claim, way, ground):
    """What is wrong with the ground of a claim by a way into its line, or None; told without the checker."""
    facts = known(program, claims, way)
    a, b, c = claim[1] if way is None else at_end(program, trail_by(program, way)[1], claim[1])
    if type(ground) is not tuple or len(ground) != 2 or type(ground[1]) is not list:
        return "no ground"
    if ground[0] == "ring":
        return wrong_with_ring(ground[1], facts)
    if ground[0] != "road":
        return "neither road nor ring"
    if sum(fact[2] for fact in ground[1]) > c:
        return "too great"
    return wrong_with_road(ground[1], facts, a, b)


class Papers(unittest.TestCase):
    def assert_papers(self, program, claims):
        """Papers are right by each ground; tells them."""
        before = copy.deepcopy((program, claims))
        self.assertIs(hold(program, claims), True)
        told = papers_of(program, claims)
        self.assertEqual((program, claims), before)
        self.assertIs(type(told), list)
        self.assertEqual([claim for claim, grounds in told], [claim for claim in claims if claim[0] in cuts(program)])
        for paper in told:
            self.assertIs(type(paper), tuple)
            claim, grounds = paper
            self.assertIs(type(grounds), list)
            self.assertEqual(len(grounds), len(into(program, claim[0])))
            for way, ground in zip(into(program, claim[0]), grounds):
                wrong = wrong_with_ground(program, claims, claim, way, ground)
                self.assertIsNone(wrong, (program, claims, claim, way, ground))
        handed = copy.deepcopy(told)
        self.assertIsNone(check(program, told))
        self.assertEqual(told, handed)
        return told

    def test_no_claims(self):
        for program in (COUNTING, RISING, SWAPPING, NEVER, (0, 0, [END])):
            self.assertEqual(papers_of(program, []), [])
            self.assert_papers(program, [])

    def test_at_line_0(self):
        # The begin's ground is the first; behind it that of the way back.
        told = self.assert_papers(RISING, [(0, (ZERO, x(0), 0))])
        begin = ("road", [(ZERO, x(0), 0)])
        back = ("road", [(ZERO, x(0), 0), (x(0), x(0, 1), -1)])
        self.assertEqual(told, [((0, (ZERO, x(0), 0)), [begin, back])])
        self.assertEqual(kinds_of(told), kinds_of([((0, (ZERO, x(0), 0)), [begin, back])]))
        # Without a way back there is the begin alone.
        told = self.assert_papers((2, 0, [END]), [(0, (x(0), x(1), 0))])
        self.assertEqual(told, [((0, (x(0), x(1), 0)), [("road", [(x(0), ZERO, 0), (ZERO, x(1), 0)])])])
        # A bound of a node and itself needs no fact.
        told = self.assert_papers((2, 0, [END]), [(0, (x(1), x(1), 0))])
        self.assertEqual(told, [((0, (x(1), x(1), 0)), [("road", [])])])

    def test_at_a_cut_with_several_ways(self):
        told = self.assert_papers(COUNTING, [(1, (x(0), LENGTH, 0)), (1, (ZERO, x(0), 0))])
        ahead, back = told[0][1]
        # By line 0 the name is 0, which is at most the length; by line 4 it is one more than below the length.
        self.assertEqual(ahead, ("road", [(x(0, 1), ZERO, 0), (ZERO, LENGTH, 0)]))
        self.assertEqual(back[1][0], (x(0, 1), x(0), 1))
        self.assertEqual(sum(fact[2] for fact in back[1]), 0)
        # Four ways into one line, each with a sum of its own.
        tests = [("test", 1, None, 0, 1, 2), ("test", 2, None, 0, 3, 4), ("test", 3, None, 0, 5, 6)]
        program = (4, 0, tests + [("set", 0, None, number, 7) for number in (4, 1, 3, 2)] + [END])
        told = self.assert_papers(program, [(7, (x(0), ZERO, 4)), (7, (ZERO, x(0), -1))])
        for number, ground in zip((4, 1, 3, 2), told[0][1]):
            self.assertEqual(ground, ("road", [(x(0, 1), ZERO, number)]))
        for number, ground in zip((4, 1, 3, 2), told[1][1]):
            self.assertEqual(ground, ("road", [(ZERO, x(0, 1), -number)]))

    def test_ways_of_one_line(self):
        program = (1, 0, [("test", 0, None, 4, 1, 1), END])
        told = self.assert_papers(program, [(0, (x(0), ZERO, 0)), (1, (x(0), ZERO, 0)), (1, (x(0), ZERO, 4))])
        self.assertEqual(len(told[1][1]), 2)
        # By the second way no run comes: the name is 0, and above 4.
        self.assertEqual([ground[0] for ground in told[1][1]], ["road", "ring"])

    def test_at_lines_that_are_no_cuts(self):
        right, wrong = (ZERO, x(0), 0), (x(0), ZERO, -7)
        for line in (2, 3, 4, 5, 6, 99, -1):
            self.assertEqual(papers_of(COUNTING, [(line, right)]), [])
            self.assertEqual(papers_of(COUNTING, [(line, wrong)]), [])
            told = self.assert_papers(COUNTING, [(line, wrong), (1, right), (line, right)])
            self.assertEqual([claim for claim, grounds in told], [(1, right)])
        lost = (1, 0, [END, ("tell", 0, 1), ("tell", 0, 1)])
        self.assertEqual(papers_of(lost, [(1, wrong), (2, right)]), [])

    def test_claims_that_stand_twice(self):
        one, other = (1, (ZERO, x(0), 0)), (1, (x(0), LENGTH, 0))
        told = self.assert_papers(COUNTING, [one, other, one, (3, one[1]), one, other])
        self.assertEqual([claim for claim, grounds in told], [one, other, one, one, other])

    def test_claims_that_show_one_another(self):
        both = [(0, (ZERO, x(0), 0)), (0, (ZERO, x(1), 0))]
        told = self.assert_papers(SWAPPING, both)
        self.assertIn((ZERO, x(1), 0), told[0][1][1][1])
        self.assertIn((ZERO, x(0), 0), told[1][1][1][1])
        self.assert_papers(SWAPPING, list(reversed(both)))

    def test_rings(self):
        told = self.assert_papers(NEVER, [(2, (ZERO, ZERO, -1)), (2, (x(0), x(1), -10 ** 12))])
        for claim, grounds in told:
            self.assertEqual(len(grounds), 3)
            for word, ring in grounds:
                self.assertEqual(word, "ring")
                self.assertEqual(ring, [(ZERO, ZERO, -1)])
        # The numbers of a name that is both above and below 0.
        apart = [(2, (ZERO, x(0), -1)), (2, (x(0), ZERO, 0))]
        told = self.assert_papers(NEVER, apart)
        self.assertEqual([len(ground[1]) for ground in told[0][1]], [1, 1, 2])

    def test_many_claims(self):
        claims = [(0, (ZERO, x(0), count)) for count in range(1000)]
        claims += [(0, (ZERO, x(0), 10 ** 12 - count)) for count in range(1000)]
        told = papers_of(RISING, claims)
        self.assertEqual([claim for claim, grounds in told], claims)
        self.assertIsNone(check(RISING, told))

    def test_of_programs_made(self):
        chance = random.Random(36)
        words = {"road": 0, "ring": 0}
        for count in range(250):
            program = winding_program(chance) if count % 2 else random_program(chance)
            candidates = chance.sample(guesses(program), min(40, len(guesses(program))))
            claims = kept(program, candidates + random_claims(chance, program, 10))
            claims += [claim for claim in claims if chance.random() < 0.1]
            claims += [claim for claim in random_claims(chance, program, 5) if claim[0] not in cuts(program)]
            chance.shuffle(claims)
            for claim, grounds in self.assert_papers(program, claims):
                for word, facts in grounds:
                    words[word] += 1
        self.assertGreater(words["road"], 1000)
        self.assertGreater(words["ring"], 100)

    def test_lists_are_the_askers_own(self):
        for program, claims in ((COUNTING, [(1, (ZERO, x(0), 0)), (1, (x(0), LENGTH, 0))]),
                                (NEVER, [(2, (ZERO, ZERO, -1)), (2, (ZERO, ZERO, -1)), (2, (x(0), x(1), -3))])):
            told = papers_of(program, claims)
            before = copy.deepcopy(told)
            # A change of one list changes no other one.
            told[0][1][0][1].append("more")
            self.assertEqual(told[0][1][1:], before[0][1][1:])
            self.assertEqual(told[1:], before[1:])
            told[0][1].append("more")
            self.assertEqual(told[1:], before[1:])
            told.append("more")
            self.assertEqual(papers_of(program, claims), before)

    def test_by_turns_and_behind_a_change(self):
        claims = [(0, (ZERO, x(0), 0))]
        level = (1, 0, [("set", 0, 0, 0, 0)])
        for again in range(2):
            self.assertEqual(papers_of(RISING, claims)[0][1][1][1], [(ZERO, x(0), 0), (x(0), x(0, 1), -1)])
            self.assertEqual(papers_of(level, claims)[0][1][1][1], [(ZERO, x(0), 0), (x(0), x(0, 1), 0)])
        told = papers_of(level, claims)
        before = copy.deepcopy(told)
        level[2][0] = ("set", 0, None, 3, 0)
        claims.clear()
        self.assertEqual(told, before)
        self.assertEqual(papers_of(level, claims), [])


if __name__ == "__main__":
    unittest.main()
