import copy
import random
import unittest

from helper import FEW_NODES, ZERO, all_least, chain, kinds_of, random_facts, wrong_with_ring, wrong_with_road
from lookspare.roads import least
from lookspare.stands import keeps, verdict

A, B, C, D = ("name", 0, 0), ("name", 0, 1), ("name", 1, 0), ("len", 0)
E, F = ("name", 5, 200), ("len", 2)
FAR = 10 ** 12


class Keeps(unittest.TestCase):
    def test_at_its_edge(self):
        stand = {ZERO: 0, A: 5, B: -7, D: 3}
        for a in stand:
            for b in stand:
                difference = stand[a] - stand[b]
                self.assertIs(keeps(stand, (a, b, difference)), True)
                self.assertIs(keeps(stand, (a, b, difference + 1)), True)
                self.assertIs(keeps(stand, (a, b, difference - 1)), False)
                self.assertIs(keeps(stand, (a, b, FAR)), True)
                self.assertIs(keeps(stand, (a, b, -FAR)), False)

    def test_great_numbers(self):
        stand = {ZERO: 0, A: 10 ** 30, B: 10 ** 30 - FAR}
        self.assertIs(keeps(stand, (A, B, FAR)), True)
        self.assertIs(keeps(stand, (A, B, FAR - 1)), False)
        self.assertIs(keeps(stand, (B, A, -FAR)), True)

    def test_the_stand_stays(self):
        stand = {ZERO: 0, A: 5}
        keeps(stand, (A, ZERO, 5))
        keeps(stand, (A, ZERO, 4))
        self.assertEqual(stand, {ZERO: 0, A: 5})


class Verdict(unittest.TestCase):
    def told(self, facts, bound, word):
        """What is told is of this word and true, the facts in any order, and the facts stay."""
        before = copy.deepcopy((facts, bound))
        for order in (facts, facts[::-1]):
            told = verdict(order, bound)
            self.assertIs(type(told), tuple)
            self.assertEqual(len(told), 2)
            self.assertEqual(told[0], word, (order, bound, told))
            self.assertIsNone(self.wrong(told, facts, bound), (order, bound, told))
        self.assertEqual((facts, bound), before)
        return verdict(facts, bound)[1]

    def wrong(self, told, facts, bound):
        if told[0] == "ring":
            return wrong_with_ring(told[1], facts)
        if told[0] == "road":
            if sum(fact[2] for fact in told[1]) > bound[2]:
                return "too great a sum"
            return wrong_with_road(told[1], facts, bound[0], bound[1])
        return self.wrong_with_stand(told[1], facts, bound)

    def wrong_with_stand(self, stand, facts, bound):
        if type(stand) is not dict or set(stand) != {ZERO, *(node for fact in facts + [bound] for node in fact[:2])}:
            return "other nodes"
        if stand[ZERO] != 0 or [node for node in stand if type(stand[node]) is not int]:
            return "other numbers"
        if [(a, b, c) for a, b, c in facts if stand[a] - stand[b] > c or not keeps(stand, (a, b, c))]:
            return "a fact is broken"
        a, b, c = bound
        return "the bound is kept" if stand[a] - stand[b] <= c or keeps(stand, bound) else None

    def test_no_facts(self):
        for c in (-FAR, -1, 0, 1, FAR):
            self.told([], (A, B, c), "stand")
            self.told([], (A, ZERO, c), "stand")
            self.told([], (ZERO, F, c), "stand")
        self.assertEqual(set(self.told([], (A, B, 3), "stand")), {ZERO, A, B})

    def test_a_node_and_itself(self):
        for node in (ZERO, A, D, E):
            for facts in ([], [(A, B, 3)], [(node, node, 0)], [(node, node, 5)], [(node, C, 1), (C, node, 0)]):
                for c in (0, 1, FAR):
                    self.told(facts, (node, node, c), "road")
                for c in (-1, -2, -FAR):
                    self.told(facts, (node, node, c), "stand")
        # The list of none, where facts lead nowhere else.
        self.assertEqual(verdict([], (A, A, 0)), ("road", []))
        self.assertEqual(verdict([(B, C, 1)], (A, A, 0)), ("road", []))
        self.assertEqual(verdict([], (ZERO, ZERO, 7)), ("road", []))

    def test_a_node_and_itself_where_facts_lead_round(self):
        self.told([(A, B, 2), (B, A, -2)], (A, A, 0), "road")
        self.told([(A, B, 2), (B, A, -2)], (A, A, -1), "stand")
        self.told([(A, B, 2), (B, A, -3)], (A, A, -1), "ring")

    def test_roads_at_their_edge(self):
        facts = [(A, D, 10), (A, B, 4), (B, D, 5), (A, C, 20), (C, B, -18), (D, ZERO, 0)]
        for c, word in ((7, "road"), (8, "road"), (10, "road"), (FAR, "road"), (6, "stand"), (-FAR, "stand")):
            self.told(facts, (A, D, c), word)
            self.told(facts, (A, ZERO, c), word)
        self.assertEqual(verdict(facts, (A, D, 7)), ("road", [(A, C, 20), (C, B, -18), (B, D, 5)]))
        for c in (0, FAR):
            self.told(facts, (D, A, c), "stand")

    def test_a_bound_that_is_a_fact(self):
        for c in (-5, 0, 5, FAR, -FAR):
            self.assertEqual(verdict([(A, B, c)], (A, B, c)), ("road", [(A, B, c)]))
            self.assertEqual(verdict([(A, B, c)] * 3, (A, B, c)), ("road", [(A, B, c)]))
            self.told([(A, B, c)], (A, B, c - 1), "stand")
            self.told([(A, B, c)], (B, A, c), "stand")

    def test_facts_that_say_the_bound_is_broken(self):
        self.told([(B, A, -6)], (A, B, 5), "stand")
        self.told([(B, A, -6), (B, A, -6), (A, B, 6)], (A, B, 5), "stand")
        self.told([(B, A, -6), (A, B, 6)], (A, B, 6), "road")

    def test_a_ring_goes_ahead_of_a_road(self):
        ring = [(C, D, 1), (D, C, -2)]
        for c in (-FAR, -1, 0, 1, FAR):
            self.told(ring, (A, B, c), "ring")
            self.told(ring + [(A, B, -FAR)], (A, B, c), "ring")
            self.told(ring, (A, A, c), "ring")
            self.told(ring, (C, D, c), "ring")
            self.told([(E, E, -1), (A, B, 0)], (A, B, c), "ring")
        self.assertEqual(verdict([(A, B, 0), (E, E, -1)], (A, B, 0)), ("ring", [(E, E, -1)]))

    def test_a_ring_far_from_the_bound(self):
        ring = [(C, D, 1), (D, C, -2)]
        self.told(ring + [(A, C, 5)], (A, B, 0), "ring")
        self.told(ring + [(C, A, 5), (A, B, 1)], (A, B, 1), "ring")
        self.told(ring + [(B, F, 5), (A, B, 1)], (A, B, 0), "ring")

    def test_a_bound_of_nodes_that_no_fact_has(self):
        facts = [(A, ZERO, -4), (ZERO, A, 9), (A, D, -1)]
        for c in (-FAR, -1, 0, 1, FAR):
            self.told(facts, (E, F, c), "stand")
            self.told(facts, (E, A, c), "stand")
            self.told(facts, (A, E, c), "stand")
            self.told(facts, (F, ZERO, c), "stand")
            self.told(facts, (ZERO, F, c), "stand")
        self.assertEqual(set(verdict(facts, (E, F, 1))[1]), {ZERO, A, D, E, F})
        self.told(facts, (E, E, 0), "road")
        self.told(facts, (E, E, -1), "stand")

    def test_nought_is_in_the_stand_though_no_fact_has_it(self):
        stand = self.told([(A, B, -4), (B, C, -4)], (C, A, 100), "stand")
        self.assertEqual(set(stand), {ZERO, A, B, C})

    def test_a_bound_with_nought_in_it(self):
        facts = [(A, ZERO, 5), (ZERO, A, -2), (A, B, 0)]
        self.told(facts, (A, ZERO, 5), "road")
        self.told(facts, (A, ZERO, 4), "stand")
        self.told(facts, (ZERO, A, -2), "road")
        self.told(facts, (ZERO, A, -3), "stand")
        self.told(facts, (ZERO, B, -2), "road")
        self.told(facts, (ZERO, B, -3), "stand")
        self.told(facts, (B, ZERO, FAR), "stand")
        # Nought stays 0 where the facts leave one stand alone.
        self.assertEqual(self.told([(A, ZERO, 5), (ZERO, A, -5)], (A, ZERO, 4), "stand"), {ZERO: 0, A: 5})
        self.assertEqual(self.told([(A, ZERO, -5), (ZERO, A, 5)], (ZERO, A, 4), "stand"), {ZERO: 0, A: -5})

    def test_what_looks_need(self):
        y, length = ("name", 2, 3), ("len", 1)
        known = [(ZERO, length, 0), (y, length, -1), (ZERO, y, 0)]
        self.told(known, (ZERO, y, 0), "road")
        self.told(known, (ZERO, y, -1), "stand")
        self.told(known, (y, length, -1), "road")
        self.told(known, (y, length, -2), "stand")
        self.assertEqual(self.told(known, (ZERO, length, -1), "road"), [(ZERO, y, 0), (y, length, -1)])

    def test_long_chains(self):
        for c in (-FAR, -1, 0, 1, FAR):
            nodes, facts = chain(1200, c)
            self.assertEqual(self.told(facts, (nodes[0], nodes[-1], 1200 * c), "road"), facts)
            self.told(facts, (nodes[0], nodes[-1], 1200 * c - 1), "stand")
            self.told(facts, (nodes[-1], nodes[0], 0), "stand")
        nodes, facts = chain(1200, -1)
        self.told(facts + [(nodes[-1], nodes[0], 1199)], (A, B, 0), "ring")

    def test_what_is_told_is_the_asker_s_own(self):
        facts = [(A, B, 1), (B, C, 2)]
        for bound, word in (((A, C, 3), "road"), ((A, C, 2), "stand")):
            first = copy.deepcopy(verdict(facts, bound))
            verdict(facts, bound)[1].clear()
            self.assertEqual(verdict(facts, bound), first)
        ring = [(A, A, -1)]
        verdict(ring, (A, B, 0))[1].clear()
        self.assertEqual(verdict(ring, (A, B, 0)), ("ring", [(A, A, -1)]))
        verdict([], (A, A, 0))[1].append(ring)
        self.assertEqual(verdict([], (A, A, 0)), ("road", []))

    def test_a_change_of_the_facts_behind_the_call(self):
        for bound in ((A, C, 3), (A, C, 2)):
            facts = [(A, B, 1), (B, C, 2)]
            told = verdict(facts, bound)
            first = copy.deepcopy(told)
            facts.clear()
            self.assertEqual(told, first)
        facts = [(A, A, -1)]
        told = verdict(facts, (A, B, 0))
        facts.clear()
        self.assertEqual(told, ("ring", [(A, A, -1)]))

    def test_against_sums_told_otherwise(self):
        chance = random.Random(8)
        met = {"ring": 0, "road": 0, "stand": 0}
        for again in range(2500):
            facts = random_facts(chance, chance.choice((-9, -3, -1, 0)), 9)
            sums = all_least(facts)
            a, b = chance.choice(FEW_NODES), chance.choice(FEW_NODES)
            shortest = None if sums is None else sums.get((a, b), 0 if a == b else None)
            near = 0 if shortest is None else shortest
            for c in (near - 1, near, near + 1, chance.randint(-20, 20)):
                if sums is None:
                    word = "ring"
                else:
                    word = "road" if shortest is not None and shortest <= c else "stand"
                    self.assertEqual(least(facts, a, b), shortest)
                met[word] += 1
                told = verdict(facts, (a, b, c))
                self.assertEqual(told[0], word, (facts, (a, b, c), told))
                self.assertIsNone(self.wrong(told, facts, (a, b, c)), (facts, (a, b, c), told))
                self.assertNotIn("bool", str(kinds_of(told)))
        self.assertGreater(min(met.values()), 1000, met)


if __name__ == "__main__":
    unittest.main()
