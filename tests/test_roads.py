import copy
import itertools
import random
import unittest

from helper import FEW_NODES, ZERO, all_least, chain, kinds_of, random_facts, wrong_with_ring
from lookspare.roads import least, ring_of

A, B, C, D = ("name", 0, 0), ("name", 0, 1), ("name", 1, 0), ("len", 0)
E, F = ("name", 5, 200), ("len", 2)
FAR = 10 ** 12


class Least(unittest.TestCase):
    def told(self, facts, a, b, wanted):
        before = copy.deepcopy(facts)
        for again in range(2):
            told = least(facts, a, b)
            self.assertEqual(told, wanted, (facts, a, b))
            self.assertIs(type(told), type(wanted))
        self.assertEqual(facts, before)

    def test_a_node_to_itself(self):
        for node in (ZERO, A, B, D, E, F):
            self.told([], node, node, 0)
            self.told([(A, B, 5), (B, C, -5)], node, node, 0)
            self.told([(node, node, 0)], node, node, 0)
            self.told([(node, node, 7)], node, node, 0)
        self.told([(A, B, 5), (B, A, -5)], A, A, 0)
        self.told([(A, B, 5), (B, A, -4)], B, B, 0)

    def test_no_road(self):
        self.told([], A, B, None)
        self.told([(B, A, 1)], A, B, None)
        self.told([(A, C, 1), (B, C, 1)], A, B, None)
        self.told([(C, A, 1), (C, B, 1)], A, B, None)
        self.told([(A, C, 1), (D, B, 1)], A, B, None)
        self.told([(A, A, 1)], A, B, None)
        self.told([(C, D, 1)], A, B, None)
        self.told([(A, B, 1)], A, C, None)
        self.told([(A, B, 1)], C, B, None)

    def test_versions_and_kinds_are_nodes_of_their_own(self):
        self.told([(("name", 0, 0), ZERO, 3)], ("name", 0, 1), ZERO, None)
        self.told([(("name", 0, 0), ZERO, 3)], ("len", 0), ZERO, None)
        self.told([(("len", 0), ("len", 1), 3)], ("len", 0), ("len", 2), None)
        # Nodes handed in are asked by what they are, not which.
        self.told([(tuple(["name", 0, 0]), tuple(["zero"]), 3)], ("name", 0, 0), ("zero",), 3)

    def test_one_fact(self):
        for c in (0, 1, -1, 1000, -1000, FAR, -FAR):
            self.told([(A, B, c)], A, B, c)
            self.told([(A, ZERO, c)], A, ZERO, c)
            self.told([(ZERO, F, c)], ZERO, F, c)

    def test_the_least_of_several_roads(self):
        facts = [(A, D, 10), (A, B, 4), (B, D, 5), (A, C, 20), (C, B, -18)]
        for order in itertools.permutations(facts):
            self.told(list(order), A, D, 7)
        self.told(facts, C, D, -13)

    def test_longer_in_facts_but_less_in_sum(self):
        facts = [(A, F, 0), (A, B, 1), (B, C, 1), (C, D, 1), (D, E, 1), (E, F, -5)]
        for order in itertools.permutations(facts):
            self.told(list(order), A, F, -1)
            self.told(list(order), A, E, 4)

    def test_the_same_two_nodes_with_several_c(self):
        for order in itertools.permutations([(A, B, 3), (A, B, -2), (A, B, 8), (B, C, 1), (B, C, -1)]):
            self.told(list(order), A, B, -2)
            self.told(list(order), A, C, -3)
        self.told([(A, B, 3)] * 5, A, B, 3)
        self.told([(A, B, 3), (A, B, 3), (B, C, 4), (B, C, 4)], A, C, 7)

    def test_facts_of_a_node_and_itself(self):
        self.told([(A, A, 0), (A, B, 2), (B, B, 9), (B, C, 3), (C, C, 0)], A, C, 5)

    def test_rings_of_sum_0_on_the_way(self):
        self.told([(A, B, 5), (B, A, -5), (B, C, 1), (C, B, -1), (C, D, 2)], A, D, 8)

    def test_great_numbers(self):
        nodes, facts = chain(1000, FAR)
        self.told(facts, nodes[0], nodes[-1], 1000 * FAR)
        nodes, facts = chain(1000, -FAR)
        self.told(facts, nodes[0], nodes[-1], -1000 * FAR)
        self.told([(A, B, FAR), (B, C, -FAR), (A, C, 1), (C, D, FAR)], A, D, FAR)

    def test_long_chains_in_each_order(self):
        for c in (-1, 0, 1):
            nodes, facts = chain(1200, c)
            mixed = list(facts)
            random.Random(c).shuffle(mixed)
            for order in (facts, facts[::-1], mixed):
                self.told(order, nodes[0], nodes[-1], 1200 * c)
                self.told(order, nodes[100], nodes[1100], 1000 * c)
                self.told(order, nodes[-1], nodes[0], None)

    def test_many_facts(self):
        nodes, facts = chain(999, 1)
        facts = facts + [(nodes[0], node, 400) for node in nodes[1:]] + [(nodes[500], nodes[900], -3)]
        self.told(facts, nodes[0], nodes[900], 397)
        self.told(facts, nodes[0], nodes[399], 399)
        self.told(facts, nodes[0], nodes[401], 400)
        self.told(facts[::-1], nodes[0], nodes[950], 400)
        self.told(facts, nodes[450], nodes[900], 47)

    def test_against_sums_told_otherwise(self):
        chance = random.Random(5)
        met = [0, 0]
        for again in range(600):
            facts = random_facts(chance)
            sums = all_least(facts)
            if sums is None:
                continue
            other = list(facts)
            chance.shuffle(other)
            for a in FEW_NODES:
                for b in FEW_NODES:
                    wanted = sums.get((a, b), 0 if a == b else None)
                    self.assertEqual(least(facts, a, b), wanted, (facts, a, b))
                    self.assertEqual(least(other, a, b), wanted, (other, a, b))
                    met[wanted is None] += 1
        self.assertGreater(min(met), 1000)


class RingOf(unittest.TestCase):
    def a_ring(self, facts, wanted=None):
        """A ring is told, whatever the order of the facts; where there is just one, that one, begun anywhere."""
        before = copy.deepcopy(facts)
        for order in (facts, facts[::-1], facts[1:] + facts[:1]):
            ring = ring_of(order)
            self.assertIsNone(wrong_with_ring(ring, facts), (order, ring))
            for fact in ring:
                self.assertEqual(kinds_of(fact)[2], int)
            if wanted is not None:
                self.assertIn(ring, [wanted[at:] + wanted[:at] for at in range(len(wanted))])
        self.assertEqual(facts, before)

    def no_ring(self, facts):
        before = copy.deepcopy(facts)
        self.assertIsNone(ring_of(facts), facts)
        self.assertIsNone(ring_of(facts[::-1]), facts)
        self.assertEqual(facts, before)

    def test_no_facts(self):
        self.no_ring([])

    def test_no_ring_at_all(self):
        self.no_ring([(A, B, -5)])
        self.no_ring([(A, B, -5), (B, C, -5), (A, C, -FAR), (ZERO, A, -1)])
        self.no_ring([(A, B, -5), (A, B, -6), (A, B, -6)])
        self.no_ring(chain(1200, -FAR)[1])

    def test_rings_of_sum_0_and_above(self):
        for total in (0, 1, FAR):
            self.no_ring([(A, A, total)])
            self.no_ring([(A, B, 5), (B, A, total - 5)])
            self.no_ring([(A, B, -FAR), (B, C, 5), (C, A, total + FAR - 5)])
            nodes, facts = chain(1200, -1)
            self.no_ring(facts + [(nodes[-1], nodes[0], 1200 + total)])

    def test_a_ring_of_one_fact(self):
        for node in (ZERO, A, D, E):
            self.a_ring([(node, node, -1)], [(node, node, -1)])
        self.a_ring([(A, A, -1), (A, A, 0), (A, A, 1)], [(A, A, -1)])
        self.a_ring([(B, C, 7), (ZERO, A, 1), (A, A, -FAR), (A, B, 2)], [(A, A, -FAR)])

    def test_rings_of_two_and_three(self):
        self.a_ring([(A, B, 5), (B, A, -6)], [(A, B, 5), (B, A, -6)])
        self.a_ring([(A, B, FAR), (B, A, -FAR), (B, A, -FAR - 1)], [(A, B, FAR), (B, A, -FAR - 1)])
        self.a_ring([(C, A, 3), (A, B, 2), (B, C, -6)], [(A, B, 2), (B, C, -6), (C, A, 3)])
        self.a_ring([(B, A, 3), (C, B, 2), (A, C, -6), (A, B, -2), (B, C, -2)], [(B, A, 3), (A, C, -6), (C, B, 2)])

    def test_long_rings(self):
        for count in (10, 300, 1200):
            for c in (-1, 0, 1):
                nodes, facts = chain(count, c)
                facts = facts + [(nodes[-1], nodes[0], -1 - count * c)]
                self.a_ring(facts, facts)
                self.no_ring(facts[:-1] + [(nodes[-1], nodes[0], -count * c)])

    def test_a_ring_that_no_other_fact_leads_to(self):
        others = [(ZERO, D, 5), (D, F, -3), (F, ZERO, 9)]
        ring = [(A, B, 1), (B, C, 1), (C, A, -3)]
        self.a_ring(others + ring, ring)
        self.a_ring(ring + others, ring)
        # The other facts lead away from it, or to it, alone.
        self.a_ring(others + ring + [(A, ZERO, -FAR)], ring)
        self.a_ring(others + ring + [(ZERO, A, FAR)], ring)

    def test_one_of_several(self):
        self.a_ring([(A, B, -1), (B, A, 0), (C, D, -1), (D, C, -1), (E, E, -1)])
        self.a_ring([(A, B, -1), (B, A, 0), (B, C, 0), (C, B, -1), (C, A, 0)])

    def test_the_list_is_the_asker_s_own(self):
        facts = [(A, B, 1), (B, A, -2)]
        ring = ring_of(facts)
        ring.clear()
        self.a_ring(facts, [(A, B, 1), (B, A, -2)])
        ring = ring_of(facts)
        facts.clear()
        self.assertEqual(sorted(ring), [(A, B, 1), (B, A, -2)])
        alone = [(A, A, -1)]
        self.assertIsNot(ring_of(alone), alone)

    def test_against_sums_told_otherwise(self):
        chance = random.Random(6)
        met = [0, 0]
        for again in range(4000):
            facts = random_facts(chance, chance.choice((-9, -3, -1)), 9)
            if all_least(facts) is None:
                met[0] += 1
                self.a_ring(facts)
            else:
                met[1] += 1
                self.no_ring(facts)
        self.assertGreater(min(met), 500)


if __name__ == "__main__":
    unittest.main()
