import copy
import random
import unittest

from helper import COUNTING, END, FAR, LENGTH, NEVER, RISING, ZERO, all_hold, random_claims, random_program
from helper import winding_program, x
from lookspare import errors
from lookspare.checker import check
from lookspare.claims import hold, kept, known
from lookspare.cuts import cuts, into
from lookspare.guesses import guesses
from lookspare.papers import papers_of

# Line 1: the name is at least 0. By line 0 it is 0; by line 4 it is one more than at line 1.
LOW = (1, (ZERO, x(0), 0))
LOW_GROUNDS = [("road", [(ZERO, x(0, 1), 0)]), ("road", [(ZERO, x(0), 0), (x(0), x(0, 1), -1)])]
# Line 1: it is at most the length.
HIGH = (1, (x(0), LENGTH, 0))
HIGH_GROUNDS = [
    ("road", [(x(0, 1), ZERO, 0), (ZERO, LENGTH, 0)]),
    ("road", [(x(0, 1), x(0), 1), (x(0), x(1, 1), -1), (x(1, 1), LENGTH, 0)]),
]
RIGHT = [(LOW, LOW_GROUNDS), (HIGH, HIGH_GROUNDS)]

# What is known at the begin of a program of one name.
BEGIN = [(x(0), ZERO, 0), (ZERO, x(0), 0)]


class Checker(unittest.TestCase):
    def told(self, program, papers):
        """What check tells, "by" or the `at` of its refusal; what is handed in must stay as it was."""
        before = copy.deepcopy((program, papers))
        try:
            given = check(program, papers)
        except errors.NoPaper as refusal:
            self.assertEqual((program, papers), before)
            self.assertIs(type(refusal.at), int)
            return refusal.at
        self.assertIsNone(given)
        self.assertEqual((program, papers), before)
        return "by"

    def assert_let_by(self, program, papers):
        self.assertEqual(self.told(program, papers), "by", (program, papers))
        self.assertTrue(all_hold(program, [claim for claim, grounds in papers]))

    def assert_refused(self, program, papers, at):
        self.assertEqual(self.told(program, papers), at, (program, papers))

    def assert_grounds_refused(self, claim, grounds):
        """Wrong grounds, in the place of the right ones of a claim of COUNTING."""
        for papers in ([(claim, grounds)] + RIGHT, RIGHT + [(claim, grounds)], [RIGHT[0], (claim, grounds), RIGHT[1]]):
            self.assert_refused(COUNTING, papers, papers.index((claim, grounds)))

    def test_no_papers(self):
        for program in (COUNTING, RISING, NEVER, (0, 0, [END])):
            self.assert_let_by(program, [])

    def test_right_papers(self):
        self.assert_let_by(COUNTING, RIGHT)
        self.assert_let_by(COUNTING, list(reversed(RIGHT)))
        self.assert_let_by(COUNTING, RIGHT[:1])
        self.assert_let_by(COUNTING, RIGHT[1:])
        self.assert_let_by(COUNTING, RIGHT * 3)

    def test_the_refusal(self):
        with self.assertRaises(errors.NoPaper) as caught:
            check(COUNTING, RIGHT + [((2, LOW[1]), [])])
        self.assertIsInstance(caught.exception, errors.SpareError)
        self.assertIsInstance(caught.exception, ValueError)
        for other in (errors.BadRow, errors.NoProgram, errors.NoLoop):
            self.assertNotIsInstance(caught.exception, other)
        self.assertEqual(caught.exception.at, 2)

    def test_a_line_that_is_no_cut(self):
        for line in (2, 3, 4, 5):
            self.assertNotIn(line, cuts(COUNTING))
            for grounds in ([], LOW_GROUNDS, LOW_GROUNDS[:1], LOW_GROUNDS[1:]):
                self.assert_grounds_refused((line, LOW[1]), grounds)
            # With a ground for each way into it, which adds up.
            self.assert_grounds_refused((line, (x(0), x(0), 0)), [("road", [])])

    def test_a_line_that_is_not_there(self):
        for line in (6, 70, -1, -5, FAR, -FAR):
            for grounds in ([], LOW_GROUNDS):
                self.assert_grounds_refused((line, LOW[1]), grounds)

    def test_a_line_that_is_not_come_to(self):
        # Two lines that are not come to lead into line 1, one of them and line 0 into line 3.
        program = (1, 0, [("tell", 0, 3), ("tell", 0, 1), ("test", 0, None, 0, 1, 3), END])
        self.assertEqual(cuts(program), [0])
        roads = [("road", []), ("road", [])]
        for line in (1, 2, 3):
            for count in (0, 1, 2):
                self.assert_refused(program, [((line, (x(0), x(0), 0)), roads[:count])], 0)
        self.assert_let_by(program, [((0, (x(0), x(0), 0)), roads[:1])])

    def test_nodes_that_the_program_lacks(self):
        # The grounds are of no fact, and add up for a bound of a node and itself.
        roads = [("road", []), ("road", [])]
        self.assert_let_by(COUNTING, [((1, (x(1), x(1), 0)), roads), ((1, (LENGTH, LENGTH, 0)), roads)])
        self.assert_let_by(COUNTING, [((1, (ZERO, ZERO, 0)), roads)])
        for node in (x(2), x(5), x(-1), x(FAR), x(0, 1), x(1, -1), x(0, FAR), ("len", 1), ("len", -1), ("len", FAR)):
            self.assert_grounds_refused((1, (node, node, 0)), roads)
        # Facts known by another claim of the node; both claims are refused, the first one told.
        for node in (x(2), x(0, 7), ("len", 2)):
            for bound in ((node, ZERO, 0), (ZERO, node, 0)):
                ring = (1, 0, [("tell", 0, 0)])
                paper = ((0, bound), [("road", [bound]), ("road", [bound])])
                self.assert_refused(ring, [paper], 0)
                right = ((0, (x(0), ZERO, 0)), [("road", [(x(0), ZERO, 0)])] * 2)
                self.assert_refused(ring, [right, paper], 1)

    def test_nodes_that_programs_lack_behind_a_ring(self):
        ring = ("ring", [(ZERO, ZERO, -1)])
        nowhere = ((2, (ZERO, ZERO, -1)), [ring] * 3)
        self.assert_let_by(NEVER, [nowhere])
        self.assert_let_by(NEVER, [nowhere, ((2, (x(1), LENGTH, -FAR)), [ring] * 3)])
        for node in (x(2), x(0, 1), ("len", 1)):
            self.assert_refused(NEVER, [nowhere, ((2, (node, ZERO, 0)), [ring] * 3)], 1)
            self.assert_refused(NEVER, [nowhere, ((2, (ZERO, node, 0)), [ring] * 3)], 1)

    def test_too_few_or_too_many_grounds(self):
        self.assert_grounds_refused(LOW, [])
        self.assert_grounds_refused(LOW, LOW_GROUNDS[:1])
        self.assert_grounds_refused(LOW, LOW_GROUNDS[1:])
        self.assert_grounds_refused(LOW, LOW_GROUNDS + LOW_GROUNDS[1:])
        self.assert_grounds_refused(LOW, LOW_GROUNDS + [("road", [])])
        self.assert_refused(RISING, [((0, (ZERO, x(0), 0)), [("road", BEGIN[1:])])], 0)
        self.assert_refused((1, 0, [END]), [((0, (ZERO, x(0), 0)), [("road", BEGIN[1:])] * 2)], 0)
        self.assert_refused((1, 0, [END]), [((0, (ZERO, x(0), 0)), [])], 0)

    def test_a_ground_for_another_way(self):
        self.assert_grounds_refused(LOW, list(reversed(LOW_GROUNDS)))
        self.assert_grounds_refused(LOW, LOW_GROUNDS[:1] * 2)
        self.assert_grounds_refused(LOW, LOW_GROUNDS[1:] * 2)
        # At line 0 the begin goes first.
        begin, back = ("road", [(ZERO, x(0), 0)]), ("road", [(ZERO, x(0), 0), (x(0), x(0, 1), -1)])
        self.assert_let_by(RISING, [((0, (ZERO, x(0), 0)), [begin, back])])
        self.assert_refused(RISING, [((0, (ZERO, x(0), 0)), [back, begin])], 0)
        # Both ways of one line are told apart.
        program = (1, 0, [("test", 0, None, 4, 1, 1), END])
        at_0 = ((0, (x(0), ZERO, 0)), [("road", BEGIN[:1])])
        first, second = ("road", [(x(0), ZERO, 4)]), ("ring", [(x(0), ZERO, 0), (ZERO, x(0), -5)])
        self.assert_let_by(program, [at_0, ((1, (x(0), ZERO, 4)), [first, second])])
        self.assert_refused(program, [at_0, ((1, (x(0), ZERO, 4)), [second, first])], 1)

    def test_a_fact_that_is_not_known_there(self):
        # So of the trail's facts by the other way, of the claims at another line, and of none.
        self.assert_grounds_refused(LOW, [("road", [(ZERO, x(0, 1), -1)]), LOW_GROUNDS[1]])
        self.assert_grounds_refused(LOW, [LOW_GROUNDS[0], ("road", [(ZERO, x(0, 1), 0)])])
        self.assert_grounds_refused((1, (ZERO, x(0), 1)), [LOW_GROUNDS[0], ("road", [(ZERO, x(0, 1), 1)])])
        at_0 = ((0, (ZERO, x(1), 0)), [("road", [(ZERO, x(1), 0)])])
        by_length = ("road", [(ZERO, LENGTH, 0), (LENGTH, x(1, 1), 0)])
        at_1 = ((1, (ZERO, x(1), 0)), [("road", [(ZERO, x(1), 0)]), by_length])
        # Along line 3 name 1 is given once more, so by the way back nothing is known of it.
        self.assert_refused(COUNTING, [at_0, at_1], 1)
        claimed_before = (1, 0, [("test", 0, None, 9, 1, 1), ("test", 0, None, 9, 2, 2), END])
        known_at_0 = ((0, (x(0), ZERO, 0)), [("road", BEGIN[:1])])
        leaning = ((1, (x(0), ZERO, 0)), [("road", BEGIN[:1])] * 2)
        self.assert_let_by(claimed_before, [known_at_0, leaning])
        self.assert_refused(claimed_before, [leaning], 0)
        self.assert_refused(claimed_before, [leaning, leaning], 0)
        self.assert_refused(claimed_before, [known_at_0, ((2, (x(0), ZERO, 0)), [("road", BEGIN[:1])] * 2)], 1)
        self.assert_let_by(claimed_before, [((2, (x(0), ZERO, 0)), [("road", BEGIN[:1])] * 2), leaning, known_at_0])
        # At the begin no claim is known, not even that at line 0.
        self.assert_refused((1, 0, [END]), [((0, (x(0), ZERO, -3)), [("road", [(x(0), ZERO, -3)])])], 0)
        self.assert_refused((1, 0, [END]), [((0, (x(0), ZERO, 3)), [("road", [(x(0), ZERO, 3)])])], 0)

    def test_a_fact_whose_c_is_another(self):
        for c in (1, -1, 2, FAR, -FAR):
            self.assert_grounds_refused(LOW, [("road", [(ZERO, x(0, 1), c)]), LOW_GROUNDS[1]])
            self.assert_grounds_refused((1, (ZERO, x(0), 5)), [("road", [(ZERO, x(0, 1), c)]), LOW_GROUNDS[1]])
        for c in (0, -2, 1, -FAR):
            self.assert_grounds_refused(LOW, [LOW_GROUNDS[0], ("road", [(ZERO, x(0), 0), (x(0), x(0, 1), c)])])

    def test_facts_that_are_not_end_to_end(self):
        # Each is known, and their sum is small enough.
        first, last = (ZERO, x(0), 0), (x(0), x(0, 1), -1)
        for road in ([last, first], [first, (ZERO, LENGTH, 0), last], [first, first, last], [first, last, last]):
            self.assert_grounds_refused(LOW, [LOW_GROUNDS[0], ("road", road)])
        # Roundabout, but end to end.
        around = [first, (x(0), x(0, 1), -1), (x(0, 1), x(0), 1), last]
        self.assert_let_by(COUNTING, [(LOW, [LOW_GROUNDS[0], ("road", around)]), RIGHT[1]])

    def test_a_road_from_or_to_another_node(self):
        back = LOW_GROUNDS[1][1]
        self.assert_grounds_refused(LOW, [LOW_GROUNDS[0], ("road", back[:1])])
        self.assert_grounds_refused(LOW, [LOW_GROUNDS[0], ("road", back[1:])])
        self.assert_grounds_refused(LOW, [LOW_GROUNDS[0], ("road", [])])
        self.assert_grounds_refused(LOW, [("road", []), LOW_GROUNDS[1]])
        self.assert_grounds_refused(LOW, [("road", [(x(0, 1), ZERO, 0)]), LOW_GROUNDS[1]])
        # From and to names as they are ahead of the trail.
        self.assert_grounds_refused((1, (ZERO, x(0), 0)), [LOW_GROUNDS[0], ("road", [(ZERO, x(0), 0)])])
        self.assert_grounds_refused((1, (x(0), x(0), -1)), [("road", [(x(0), x(0, 1), -1)])] * 2)
        self.assert_grounds_refused(HIGH, [("road", HIGH_GROUNDS[0][1][:1]), HIGH_GROUNDS[1]])
        self.assert_grounds_refused(HIGH, [("road", HIGH_GROUNDS[0][1][1:]), HIGH_GROUNDS[1]])

    def test_a_sum_at_the_edge(self):
        begin, back = ("road", BEGIN[1:]), ("road", [(ZERO, x(0), 0), (x(0), x(0, 1), -1)])
        by = ((0, (ZERO, x(0), 0)), [begin, back])
        self.assert_let_by(RISING, [by])
        self.assert_let_by(RISING, [by, ((0, (ZERO, x(0), 1)), [begin, back])])
        self.assert_let_by(RISING, [by, ((0, (ZERO, x(0), FAR)), [begin, back])])
        # The begin's sum is greater by one.
        self.assert_refused(RISING, [by, ((0, (ZERO, x(0), -1)), [begin, back])], 1)
        # A way back's sum is greater by one, or just as great.
        level = (1, 0, [("set", 0, 0, 1, 1), ("test", 0, None, 3, 0, 2), END])
        road = ("road", [(x(0, 1), ZERO, 3)])
        self.assert_let_by(level, [((0, (x(0), ZERO, 3)), [("road", BEGIN[:1]), road])])
        self.assert_let_by(level, [((0, (x(0), ZERO, 4)), [("road", BEGIN[:1]), road])])
        self.assert_refused(level, [((0, (x(0), ZERO, 2)), [("road", BEGIN[:1]), road])], 0)
        far = ("road", [(x(0, 1), x(0), 1), (x(0), ZERO, 3)])
        self.assert_refused(level, [((0, (x(0), ZERO, 3)), [("road", BEGIN[:1]), far])], 0)

    def test_a_road_of_no_facts(self):
        for node in (ZERO, x(0), x(1), LENGTH):
            roads = [("road", []), ("road", [])]
            for c in (0, 1, FAR):
                self.assert_let_by(COUNTING, [((1, (node, node, c)), roads)])
            for c in (-1, -FAR):
                self.assert_refused(COUNTING, [((1, (node, node, c)), roads)], 0)

    def test_rings(self):
        program = (1, 0, [("test", 0, None, 4, 1, 1), END])
        at_0 = [((0, (x(0), ZERO, 0)), [("road", BEGIN[:1])]), ((0, (ZERO, x(0), 0)), [("road", BEGIN[1:])])]
        road = ("road", [(x(0), ZERO, 0)])

        def papers(facts, word="ring"):
            return at_0 + [((1, (x(0), ZERO, 0)), [road, (word, facts)])]

        low, high, above = (x(0), ZERO, 0), (ZERO, x(0), 0), (ZERO, x(0), -5)
        self.assert_let_by(program, papers([low, above]))
        self.assert_let_by(program, papers([above, low]))
        self.assert_let_by(program, papers([low, high, low, above]))
        # Of no facts; of a sum 0; not closed; facts not end to end; a fact that is not known.
        for facts in ([], [low, high], [above], [low], [low, above, low], [low, low], [above, above],
                      [low, (ZERO, x(0), -6)], [(ZERO, ZERO, -1)]):
            self.assert_refused(program, papers(facts), 2)
        self.assert_refused(program, papers([low, above], "road"), 2)
        # By the first way there is no ring.
        self.assert_refused(program, at_0 + [((1, (x(0), ZERO, 0)), [("ring", [low, above])] * 2)], 2)

    def test_sums_of_rings_at_the_edge(self):
        for c, told in ((-1, "by"), (0, 2), (-2, "by"), (1, 2)):
            program = (1, 0, [("test", None, 0, c, 1, 1), END])
            at_0 = [((0, (x(0), ZERO, 0)), [("road", BEGIN[:1])]), ((0, (ZERO, x(0), 0)), [("road", BEGIN[1:])])]
            grounds = [("ring", [(x(0), ZERO, 0), (ZERO, x(0), c)]), ("road", [(x(0), ZERO, 0)])]
            self.assertEqual(self.told(program, at_0 + [((1, (x(0), ZERO, 0)), grounds)]), told, c)

    def test_a_ring_needs_no_fact_of_the_bound(self):
        ring = ("ring", [(ZERO, ZERO, -1)])
        papers = [((2, (ZERO, ZERO, -1)), [ring] * 3), ((2, (x(0), x(1), -FAR)), [ring] * 3)]
        self.assert_let_by(NEVER, papers)
        # Along the way of line 2 to itself the ring is known by the first claim alone.
        self.assert_refused(NEVER, papers[1:], 0)

    def test_the_word_of_the_other_kind(self):
        for at in (0, 1):
            grounds = list(LOW_GROUNDS)
            grounds[at] = ("ring", grounds[at][1])
            self.assert_grounds_refused(LOW, grounds)
        ring = [(ZERO, ZERO, -1)]
        # A ring from nought to itself is a road as well, for a bound of nought and itself.
        nowhere = ((2, (ZERO, ZERO, -1)), [("road", ring), ("ring", ring), ("road", ring)])
        self.assert_let_by(NEVER, [nowhere])
        other = (2, (x(0), x(1), -1))
        self.assert_let_by(NEVER, [nowhere, (other, [("ring", ring)] * 3)])
        for at in range(3):
            grounds = [("ring", ring)] * 3
            grounds[at] = ("road", ring)
            self.assert_refused(NEVER, [nowhere, (other, grounds)], 1)
        # A road from a node to itself of a sum 0 is no ring that tells something.
        self.assert_grounds_refused((1, (ZERO, ZERO, 0)), [("ring", [(x(0, 1), ZERO, 0), (ZERO, x(0, 1), 0)]),
                                                           ("road", [])])

    def test_neither_road_nor_ring(self):
        self.assert_grounds_refused((1, (x(0), x(0), 0)), [("stand", []), ("road", [])])
        self.assert_grounds_refused(LOW, [LOW_GROUNDS[0], ("stand", LOW_GROUNDS[1][1])])
        self.assert_grounds_refused(LOW, [("stand", {ZERO: 0, x(0, 1): -1}), LOW_GROUNDS[1]])

    def test_two_wrong_claims(self):
        wrong, other = (LOW, LOW_GROUNDS[:1]), ((9, LOW[1]), LOW_GROUNDS)
        for first, second in ((wrong, other), (other, wrong)):
            self.assert_refused(COUNTING, [first, second], 0)
            self.assert_refused(COUNTING, RIGHT + [first, second], 2)
            self.assert_refused(COUNTING, [RIGHT[0], first, RIGHT[1], second], 1)

    def test_a_claim_leans_on_a_wrong_one(self):
        # The first one's grounds add up by the claims of all papers; the second one's don't.
        program = (1, 0, [("test", 0, None, 9, 1, 1), END])
        leaning = ((1, (x(0), ZERO, -5)), [("road", [(x(0), ZERO, -5)])] * 2)
        wrong = ((0, (x(0), ZERO, -5)), [("road", [(x(0), ZERO, 0)])])
        self.assert_refused(program, [leaning, wrong], 1)
        self.assert_refused(program, [wrong, leaning], 0)

    def test_claims_that_hold_only_together(self):
        swapping = (3, 0, [("set", 2, 0, 0, 1), ("set", 0, 1, 0, 2), ("set", 1, 2, 0, 0)])
        by_1 = [("road", [(ZERO, x(0), 0)]), ("road", [(ZERO, x(1), 0), (x(1), x(0, 1), 0)])]
        by_0 = [("road", [(ZERO, x(1), 0)]), ("road", [(ZERO, x(0), 0), (x(0), x(2, 1), 0), (x(2, 1), x(1, 1), 0)])]
        papers = [((0, (ZERO, x(0), 0)), by_1), ((0, (ZERO, x(1), 0)), by_0)]
        self.assert_let_by(swapping, papers)
        self.assert_let_by(swapping, list(reversed(papers)))
        self.assert_refused(swapping, papers[:1], 0)
        self.assert_refused(swapping, papers[1:], 0)

    def test_it_searches_nothing(self):
        # The claims hold, but the grounds told don't show it.
        self.assertIs(hold(COUNTING, [LOW, HIGH]), True)
        empty = [("road", []), ("road", [])]
        self.assert_refused(COUNTING, [(LOW, empty)], 0)
        self.assert_refused(COUNTING, [(LOW, LOW_GROUNDS), (HIGH, LOW_GROUNDS)], 1)
        self.assert_refused(COUNTING, [(LOW, HIGH_GROUNDS), (HIGH, LOW_GROUNDS)], 0)
        self.assert_refused(COUNTING, [(HIGH, [HIGH_GROUNDS[0], ("ring", [])])], 0)

    def test_of_programs_made(self):
        chance = random.Random(35)
        counts = {}
        for count in range(150):
            program = winding_program(chance) if count % 2 else random_program(chance)
            candidates = chance.sample(guesses(program), min(30, len(guesses(program))))
            papers = papers_of(program, kept(program, candidates + random_claims(chance, program, 10)))
            self.assert_let_by(program, papers)
            for again in range(4 if papers else 0):
                at = chance.randrange(len(papers))
                claim, grounds = papers[at]
                which = chance.randrange(len(grounds))
                kind, ground = wrongly(chance, program, papers, claim, which, grounds[which])
                if kind is not None:
                    wrong = grounds[:which] + [ground] + grounds[which + 1:]
                    self.assert_refused(program, papers[:at] + [(claim, wrong)] + papers[at + 1:], at)
                    counts[kind] = counts.get(kind, 0) + 1
        self.assertEqual(sorted(counts), ["fewer", "number", "word"])
        self.assertGreater(min(counts.values()), 20)

    def test_whatever_is_let_by_holds(self):
        # Grounds of some claims for others, of the same line and of other lines.
        chance = random.Random(350)
        told = {"by": 0}
        for count in range(300):
            program = winding_program(chance) if count % 2 else random_program(chance)
            papers = papers_of(program, kept(program, guesses(program)))
            if not papers:
                continue
            some = chance.sample(papers, min(len(papers), 3))
            mixed = []
            for claim, grounds in some:
                c = claim[1][2] + chance.choice((0, 0, 0, 1, -1))
                mixed.append(((claim[0], claim[1][:2] + (c,)), chance.choice([grounds, chance.choice(papers)[1]])))
            answer = self.told(program, mixed)
            if answer == "by":
                self.assertTrue(all_hold(program, [claim for claim, grounds in mixed]))
            told[answer] = told.get(answer, 0) + 1
        self.assertGreater(told["by"], 20)
        self.assertGreater(told[0], 50)

    def test_many_papers(self):
        claims = [(0, (ZERO, x(0), count)) for count in range(2000)]
        papers = papers_of(RISING, claims)
        self.assertIsNone(check(RISING, papers))
        papers[1999] = ((0, (ZERO, x(0), -1)), papers[0][1])
        self.assert_refused(RISING, papers, 1999)

    def test_by_turns_and_behind_a_change(self):
        papers = [((0, (ZERO, x(0), 0)), [("road", BEGIN[1:]), ("road", [(ZERO, x(0), 0), (x(0), x(0, 1), -1)])])]
        other = (1, 0, [("set", 0, 0, 2, 0)])
        for again in range(2):
            self.assert_let_by(RISING, papers)
            self.assert_refused(other, papers, 0)
        papers[0][1][1][1][1] = (x(0), x(0, 1), -2)
        self.assert_refused(RISING, papers, 0)
        self.assert_let_by(other, papers)
        other[2][0] = ("set", 0, 0, 1, 0)
        self.assert_refused(other, papers, 0)


def wrongly(chance, program, papers, claim, which, ground):
    """A ground that is wrong for a claim by one of the ways into its line, and what is wrong with it, or Nones."""
    word, facts = ground
    kind = chance.choice(("fewer", "word", "number"))
    way = into(program, claim[0])[which]
    there = known(program, [paper[0] for paper in papers], way)
    if kind == "word" and word == "road" and sum(fact[2] for fact in facts) >= 0:
        return kind, ("ring", facts)
    # Without a fact that leads from one node to another the others don't meet, or lead elsewhere.
    if kind == "fewer" and facts and [fact for fact in facts if fact[0] != fact[1]]:
        at = [at for at, fact in enumerate(facts) if fact[0] != fact[1]][0]
        return kind, (word, facts[:at] + facts[at + 1:])
    if kind == "number" and facts:
        at = chance.randrange(len(facts))
        other = (facts[at][0], facts[at][1], facts[at][2] + chance.choice((1, -1)))
        if other not in there:
            return kind, (word, facts[:at] + [other] + facts[at + 1:])
    return None, None


if __name__ == "__main__":
    unittest.main()
