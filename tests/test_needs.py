import random
import unittest

from helper import ZERO, kinds_of, random_program, winding_program
from lookspare.cuts import come_to, cuts
from lookspare.programs import looks
from lookspare.trails import needs, trail, versions

END = ("end",)


def x(name, version):
    return ("name", name, version)


# Each place line with what its looks need, names as they are at the trail's begin.
PLACES = [
    (("get", 0, 0, 1, 0, 4), (ZERO, x(1, 0), 0), (x(1, 0), ("len", 0), -1)),
    (("get", 0, 1, 1, 5, 4), (ZERO, x(1, 0), 5), (x(1, 0), ("len", 1), -6)),
    (("get", 0, 1, 1, -5, 4), (ZERO, x(1, 0), -5), (x(1, 0), ("len", 1), 4)),
    (("get", 1, 0, 1, -1, 4), (ZERO, x(1, 0), -1), (x(1, 0), ("len", 0), 0)),
    (("get", 0, 0, 0, 3, 4), (ZERO, x(0, 0), 3), (x(0, 0), ("len", 0), -4)),
    (("get", 1, 0, None, 7, 4), (ZERO, ZERO, 7), (ZERO, ("len", 0), -8)),
    (("get", 1, 1, None, -1000, 4), (ZERO, ZERO, -1000), (ZERO, ("len", 1), 999)),
    (("put", 0, 1, 0, 2, 4), (ZERO, x(1, 0), 0), (x(1, 0), ("len", 0), -1)),
    (("put", 1, 2, 1000, 1, 4), (ZERO, x(2, 0), 1000), (x(2, 0), ("len", 1), -1001)),
    (("put", 1, 0, -2, 0, 4), (ZERO, x(0, 0), -2), (x(0, 0), ("len", 1), 1)),
    (("put", 0, None, 2, 1, 4), (ZERO, ZERO, 2), (ZERO, ("len", 0), -3)),
    (("put", 1, None, 0, 1, 4), (ZERO, ZERO, 0), (ZERO, ("len", 1), -1)),
]


def raised(bound, counts):
    ends = [x(node[1], counts[node[1]]) if node[0] == "name" else node for node in bound[:2]]
    return (ends[0], ends[1], bound[2])


class Needs(unittest.TestCase):
    def assert_needs(self, lines, at, low, high):
        program = (3, 2, list(lines))
        for word, bound in (("low", low), ("high", high)):
            self.assertEqual(needs(program, (at, word)), bound, (lines, word))
            self.assertEqual(kinds_of(needs(program, (at, word))), kinds_of(bound), (lines, word))
        self.assertEqual(program, (3, 2, list(lines)))

    def test_at_line_0(self):
        for line, low, high in PLACES:
            self.assert_needs([line, END, END, END, END], 0, low, high)

    def test_behind_names_given(self):
        for line, low, high in PLACES:
            # Names 0 and 1 are given on the trail, once and twice; name 2 is not.
            lines = [("take", 1, 1), ("set", 1, 1, 1, 2), ("len", 0, 0, 3), line, END]
            self.assert_needs(lines, 3, raised(low, [1, 2, 0]), raised(high, [1, 2, 0]))

    def test_at_a_cut(self):
        for line, low, high in PLACES:
            # What is given ahead of a cut, or by the line itself behind it, is not on its trail.
            lines = [("take", 1, 1), ("take", 2, 3), END, line, ("test", 0, 1, 0, 3, 2)]
            self.assertIn(3, cuts((3, 2, lines)))
            self.assert_needs(lines, 3, low, high)

    def test_behind_a_cut(self):
        for line, low, high in PLACES:
            # The cut is line 1; line 0 is ahead of it, a take on the way back is not on the trail either.
            lines = [("take", 2, 1), ("set", 0, 0, -1, 2), ("test", 0, 1, 0, 3, 5), line, ("take", 1, 1), END]
            self.assertEqual(trail((3, 2, lines), 3), (1, [(1, 0), (2, 0)]))
            self.assert_needs(lines, 3, raised(low, [1, 0, 0]), raised(high, [1, 0, 0]))

    def test_the_versions_are_those_ahead_of_the_line(self):
        lines = [("get", 0, 0, 0, 0, 1), ("get", 0, 0, 0, 1, 2), ("put", 1, 0, 2, 0, 3), ("get", 1, 1, 0, 3, 4), END]
        self.assert_needs(lines, 0, (ZERO, x(0, 0), 0), (x(0, 0), ("len", 0), -1))
        self.assert_needs(lines, 1, (ZERO, x(0, 1), 1), (x(0, 1), ("len", 0), -2))
        self.assert_needs(lines, 2, (ZERO, x(0, 2), 2), (x(0, 2), ("len", 1), -3))
        self.assert_needs(lines, 3, (ZERO, x(0, 2), 3), (x(0, 2), ("len", 1), -4))

    def test_all_looks_of_programs(self):
        chance = random.Random(26)
        seen = 0
        for count in range(400):
            program = random_program(chance) if count % 2 else winding_program(chance)
            for look in looks(program):
                if look[0] not in come_to(program):
                    continue
                line = program[2][look[0]]
                r, y, c = line[2:5] if line[0] == "get" else line[1:4]
                node = ZERO if y is None else x(y, versions(program, trail(program, look[0])[1])[y])
                told = (ZERO, node, c) if look[1] == "low" else (node, ("len", r), -c - 1)
                self.assertEqual(needs(program, look), told, (program, look))
                seen += 1
        self.assertGreater(seen, 500)

    def test_by_turns_and_behind_a_change(self):
        one = (3, 2, [("take", 1, 1), ("get", 0, 0, 1, 0, 2), END])
        other = (3, 2, [("take", 0, 1), ("put", 1, 1, 4, 1, 2), END])
        for again in range(2):
            self.assertEqual(needs(one, (1, "low")), (ZERO, x(1, 1), 0))
            self.assertEqual(needs(other, (1, "high")), (x(1, 0), ("len", 1), -5))
        told = needs(one, (1, "high"))
        one[2][0] = ("tell", 1, 1)
        self.assertEqual(told, (x(1, 1), ("len", 0), -1))
        self.assertEqual(needs(one, (1, "high")), (x(1, 0), ("len", 0), -1))


if __name__ == "__main__":
    unittest.main()
