import itertools
import unittest

from helper import ask, told_of

END = ("end",)


def of(lines):
    return told_of((1, 1, lines))


class Rings(unittest.TestCase):
    def test_an_ask_that_leads_to_itself(self):
        self.assertEqual(of([ask(0, 0)]), 0)
        self.assertEqual(of([END, ask(1, 0)]), 1)
        self.assertEqual(of([END, ask(0, 1)]), 1)
        self.assertEqual(of([END] * 69 + [ask(0, 69)]), 69)

    def test_rings_of_two_by_either_way(self):
        for first in ((2, 0), (0, 2)):
            for second in ((1, 0), (0, 1)):
                self.assertEqual(of([END, ask(*first), ask(*second)]), 1)

    def test_rings_of_three_in_either_order(self):
        self.assertEqual(of([END, ask(2, 0), ask(3, 0), ask(0, 1)]), 1)
        self.assertEqual(of([END, ask(0, 3), ask(1, 0), ask(2, 0)]), 1)

    def test_a_ring_of_all_lines(self):
        ahead = [ask((at + 1) % 70, at - 1 if at else 69) for at in range(70)]
        self.assertEqual(of(ahead), 0)
        self.assertEqual(of([END] + [ask(at + 1, 0) for at in range(1, 69)] + [ask(0, 1)]), 1)
        self.assertEqual(of([END, ask(0, 69)] + [ask(0, at - 1) for at in range(2, 70)]), 1)

    def test_asks_that_only_lead_into_a_ring(self):
        self.assertEqual(of([ask(1, 1), ask(2, 3), ask(1, 3), END]), 1)
        self.assertEqual(of([ask(1, 4), ask(2, 4), ask(3, 4), ask(2, 4), END]), 2)
        self.assertEqual(of([ask(4, 3), ask(4, 3), ask(3, 4), END, ask(3, 4)]), 4)

    def test_the_least_of_several_rings(self):
        self.assertEqual(of([END, ask(1, 0), ask(2, 0)]), 1)
        self.assertEqual(of([ask(4, 5), ask(3, 5), ask(2, 5), ask(1, 5), ask(4, 5), END]), 1)
        # Both rings go through line 4; the least line is on the second way of it.
        self.assertEqual(of([END, ask(4, 0), ask(4, 0), END, ask(2, 1)]), 1)

    def test_rings_that_are_not_come_to(self):
        self.assertEqual(of([END, ask(2, 2), ask(1, 1)]), 1)

    def test_asks_without_a_ring(self):
        self.assertEqual(of([ask(1, 2), ask(2, 3), ask(3, 3), END]), "right")
        self.assertEqual(of([ask(3, 2), END, ask(3, 1), ask(1, 1)]), "right")
        self.assertEqual(of([END, ask(0, 0), ask(1, 0), ask(2, 1)]), "right")
        self.assertEqual(of([ask(at + 1, at + 1) for at in range(69)] + [END]), "right")
        self.assertEqual(of([END] + [ask(at, at) for at in range(69)]), "right")

    def test_two_asks_that_lead_to_one(self):
        self.assertEqual(of([ask(1, 2), ask(3, 3), ask(3, 3), ask(4, 4), END]), "right")

    def test_rings_through_a_line_that_is_no_ask(self):
        others = (
            ("set", 0, None, 0, 0), ("sum", 0, 0, 0, 0), ("len", 0, 0, 0), ("take", 0, 0),
            ("get", 0, 0, 0, 0, 0), ("put", 0, 0, 0, 0, 0), ("tell", 0, 0), ("test", 0, 0, 0, 0, 0),
        )
        for other in others:
            self.assertEqual(of([other]), "right", other)
            self.assertEqual(of([ask(1, 1), other]), "right", other)
            self.assertEqual(of([ask(2, 1), other, ask(1, 1)]), "right", other)
            self.assertEqual(of([other, ask(0, 0)]), "right", other)

    def test_a_ring_beside_one_through_another_line(self):
        self.assertEqual(of([ask(1, 1), ("tell", 0, 0), ask(3, 1), ask(2, 1)]), 2)

    def test_all_programs_of_three_lines(self):
        kinds = [END] + [("tell", 0, k) for k in range(3)]
        kinds = kinds + [ask(k, m) for k in range(3) for m in range(3)]
        for lines in itertools.product(kinds, repeat=3):
            self.assertEqual(of(list(lines)), least_on_a_ring(lines), lines)


def least_on_a_ring(lines):
    """Tries every row of unlike asks as a ring."""
    asks = [at for at in range(len(lines)) if lines[at][0] == "ask"]
    found = []
    for count in range(1, len(asks) + 1):
        for row in itertools.permutations(asks, count):
            after = row[1:] + row[:1]
            if all(there in lines[here][2:] for here, there in zip(row, after)):
                found = found + list(row)
    return min(found) if found else "right"


if __name__ == "__main__":
    unittest.main()
