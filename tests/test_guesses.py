import copy
import itertools
import random
import unittest

from helper import END, LENGTH, ZERO, kinds_of, random_program, winding_program, x
from lookspare.cuts import cuts
from lookspare.guesses import guesses


def guessed_anew(program):
    """The guesses, told otherwise than the program does."""
    names, rows, lines = program
    given = {x(name) for name in range(names)}
    nodes = {ZERO} | given | {("len", row) for row in range(rows)}
    bounds = {(a, b, c) for a, b in itertools.permutations(nodes, 2) if {a, b} & given for c in (0, -1)}
    for line in lines:
        if line[0] == "test":
            y, w = [ZERO if value is None else x(value) for value in line[1:3]]
            c = line[3]
            bounds |= {(y, w, c), (y, w, c + 1), (w, y, -1 - c), (w, y, -c)} if y != w else set()
        if line[0] == "set" and line[2] is None:
            bounds |= {(x(line[1]), ZERO, line[3]), (ZERO, x(line[1]), -line[3])}
        if line[0] == "ask":
            bounds |= {(a, b, c) for a, b, c in line[1] if a != b}
    return [(cut, bound) for cut in cuts(program) for bound in sorted(bounds)][:400]


class Guesses(unittest.TestCase):
    def assert_guesses(self, program, told):
        before = copy.deepcopy(program)
        self.assertEqual(guesses(program), told, program)
        self.assertEqual(kinds_of(guesses(program)), kinds_of(told))
        self.assertEqual(program, before)

    def assert_bounds(self, program, bounds):
        """The guesses at each cut, where they are not too many; the bounds are told as they are sorted."""
        self.assertEqual(bounds, sorted(bounds))
        self.assert_guesses(program, [(cut, bound) for cut in cuts(program) for bound in bounds])

    def test_without_names(self):
        self.assert_guesses((0, 0, [END]), [])
        self.assert_guesses((0, 3, [END]), [])
        self.assert_guesses((0, 0, [("test", None, None, 4, 1, 1), END]), [])
        # Those of asks need no name.
        ask = ("ask", ((ZERO, LENGTH, -3), (ZERO, ZERO, 4), (LENGTH, ZERO, 9)), 1, 1)
        self.assert_bounds((0, 1, [ask, END]), [(LENGTH, ZERO, 9), (ZERO, LENGTH, -3)])

    def test_one_name(self):
        of_one = [(x(0), ZERO, -1), (x(0), ZERO, 0), (ZERO, x(0), -1), (ZERO, x(0), 0)]
        self.assert_guesses((1, 0, [END]), [(0, bound) for bound in of_one])
        self.assert_bounds((1, 0, [("take", 0, 0)]), of_one)
        with_length = [(LENGTH, x(0), -1), (LENGTH, x(0), 0), (x(0), LENGTH, -1), (x(0), LENGTH, 0)] + of_one
        self.assert_guesses((1, 1, [END]), [(0, bound) for bound in with_length])

    def test_two_names(self):
        self.assert_bounds((2, 0, [END]), [
            (x(0), x(1), -1), (x(0), x(1), 0), (x(0), ZERO, -1), (x(0), ZERO, 0),
            (x(1), x(0), -1), (x(1), x(0), 0), (x(1), ZERO, -1), (x(1), ZERO, 0),
            (ZERO, x(0), -1), (ZERO, x(0), 0), (ZERO, x(1), -1), (ZERO, x(1), 0),
        ])

    def test_six_names_and_three_rows(self):
        told = guesses((6, 3, [END]))
        # 90 roads between two of 10 nodes, but 12 among nought and the lengths; two c for each.
        self.assertEqual(len(told), 156)
        self.assertEqual(told[0], (0, (("len", 0), x(0), -1)))
        self.assertEqual(told[1], (0, (("len", 0), x(0), 0)))
        self.assertEqual(told[-1], (0, (ZERO, x(5), 0)))
        self.assertEqual(told, sorted(told))
        self.assert_guesses((6, 3, [END]), guessed_anew((6, 3, [END])))
        for line, (a, b, c) in told:
            self.assertIn("name", (a[0], b[0]))
            self.assertNotEqual(a, b)

    def assert_more_by(self, lines, more, names=2):
        """What lines add to the guesses of a program of these names and one row."""
        plain = [bound for line, bound in guesses((names, 1, [END]))]
        program = (names, 1, list(lines))
        self.assert_bounds(program, sorted(plain + more))
        for bound in more:
            self.assertNotIn(bound, plain)

    def test_tests(self):
        two_names = [(x(0), x(1), 5), (x(0), x(1), 6), (x(1), x(0), -6), (x(1), x(0), -5)]
        self.assert_more_by([("test", 0, 1, 5, 1, 1), END], two_names)
        self.assert_more_by([("test", 1, 0, -6, 1, 1), END], two_names)
        none_behind = [(x(0), ZERO, 5), (x(0), ZERO, 6), (ZERO, x(0), -6), (ZERO, x(0), -5)]
        self.assert_more_by([("test", 0, None, 5, 1, 1), END], none_behind)
        none_ahead = [(ZERO, x(1), -7), (ZERO, x(1), -6), (x(1), ZERO, 6), (x(1), ZERO, 7)]
        self.assert_more_by([("test", None, 1, -7, 1, 1), END], none_ahead)
        # Beyond the written numbers by one.
        greatest = [(x(0), x(1), 1000), (x(0), x(1), 1001), (x(1), x(0), -1001), (x(1), x(0), -1000)]
        self.assert_more_by([("test", 0, 1, 1000, 1, 1), END], greatest)
        # Each once, where there are some already.
        self.assert_more_by([("test", 0, 1, 0, 1, 1), END], [(x(0), x(1), 1)])
        self.assert_more_by([("test", 0, 1, -1, 1, 1), END], [(x(1), x(0), 1)])
        self.assert_more_by([("test", 0, 1, -2, 1, 1), END], [(x(0), x(1), -2), (x(1), x(0), 1), (x(1), x(0), 2)])

    def test_tests_of_a_value_with_itself(self):
        for c in (0, 5, -5):
            self.assert_more_by([("test", 0, 0, c, 1, 1), END], [])
            self.assert_more_by([("test", None, None, c, 1, 1), END], [])

    def test_sets(self):
        self.assert_more_by([("set", 0, None, 7, 1), END], [(x(0), ZERO, 7), (ZERO, x(0), -7)])
        self.assert_more_by([("set", 1, None, -7, 1), END], [(x(1), ZERO, -7), (ZERO, x(1), 7)])
        self.assert_more_by([("set", 1, None, 0, 1), END], [])
        self.assert_more_by([("set", 1, None, -1, 1), END], [(ZERO, x(1), 1)])
        self.assert_more_by([("set", 1, None, 1, 1), END], [(x(1), ZERO, 1)])
        # A set by a name adds none.
        self.assert_more_by([("set", 1, 0, 7, 1), END], [])
        self.assert_more_by([("set", 0, 0, 1, 1), END], [])

    def test_asks(self):
        self.assert_more_by([("ask", ((x(0), LENGTH, 5),), 1, 1), END], [(x(0), LENGTH, 5)])
        bounds = ((ZERO, x(1), -3), (x(0), x(0), 2), (LENGTH, ZERO, 40), (x(1), LENGTH, 0))
        self.assert_more_by([("ask", bounds, 1, 1), END], [(ZERO, x(1), -3), (LENGTH, ZERO, 40)])
        self.assert_more_by([("ask", ((LENGTH, LENGTH, 1), (ZERO, ZERO, -1), (x(1), x(1), 0)), 1, 1), END], [])
        # Nothing against an ask's bounds, and no c beside theirs, is guessed.
        self.assert_more_by([("ask", ((x(0), x(1), 9), (x(0), x(1), 9)), 1, 1), END], [(x(0), x(1), 9)])

    def test_other_lines_add_none(self):
        for line in (("sum", 0, 1, None, 1), ("len", 0, 0, 1), ("take", 0, 1), ("get", 0, 0, None, 7, 1),
                     ("put", 0, 1, -9, 0, 1), ("tell", 0, 1)):
            self.assert_more_by([line, END], [])

    def test_lines_that_are_not_come_to(self):
        # They count for the bounds; but line 2, into which lines 2 and 3 lead, is no cut.
        program = (1, 0, [("tell", 0, 1), END, ("test", 0, None, 3, 2, 2), ("set", 0, None, 9, 2)])
        bounds = [
            (x(0), ZERO, -1), (x(0), ZERO, 0), (x(0), ZERO, 3), (x(0), ZERO, 4), (x(0), ZERO, 9),
            (ZERO, x(0), -9), (ZERO, x(0), -4), (ZERO, x(0), -3), (ZERO, x(0), -1), (ZERO, x(0), 0),
        ]
        self.assert_guesses(program, [(0, bound) for bound in bounds])
        lost_ask = (1, 0, [END, ("ask", ((x(0), ZERO, 5),), 0, 0)])
        self.assert_guesses(lost_ask, [(0, bound) for bound in [
            (x(0), ZERO, -1), (x(0), ZERO, 0), (x(0), ZERO, 5), (ZERO, x(0), -1), (ZERO, x(0), 0)]])

    def test_the_same_at_each_cut(self):
        program = (2, 1, [("take", 0, 3), ("tell", 0, 1), ("tell", 1, 5), ("test", 0, 1, 4, 2, 5), END,
                          ("ask", ((LENGTH, x(0), 8),), 2, 4)])
        self.assertEqual(cuts(program), [0, 2, 5])
        told = guesses(program)
        count = len(told) // 3
        self.assertEqual([line for line, bound in told], [0] * count + [2] * count + [5] * count)
        at_0 = [bound for line, bound in told if line == 0]
        self.assertEqual(at_0, sorted(set(at_0)))
        for cut in (2, 5):
            self.assertEqual([bound for line, bound in told if line == cut], at_0)

    def test_at_most_400(self):
        # Eight bounds; each line is a cut, so there are eight times as many as lines.
        def program_of(count):
            return (1, 0, [("test", 0, None, 5, at + 1, at + 1) for at in range(count - 1)] + [END])

        for count in (2, 49, 50):
            self.assertEqual(len(guesses(program_of(count))), 8 * count)
        whole = guesses(program_of(50))
        for count in (51, 52, 70):
            self.assert_guesses(program_of(count), whole)
        # Cut off among the bounds of a cut: 156 at the first and the second, 88 at the third.
        program = (6, 3, [("test", 0, 0, 5, 1, 1), ("test", 0, 0, 5, 2, 2), ("test", 0, 0, 5, 3, 3), END])
        at_0 = [bound for line, bound in guesses((6, 3, [END]))]
        told = [(0, bound) for bound in at_0] + [(1, bound) for bound in at_0] + [(2, bound) for bound in at_0[:88]]
        self.assertEqual(len(told), 400)
        self.assert_guesses(program, told)

    def test_of_programs_made(self):
        chance = random.Random(32)
        great = 0
        for count in range(400):
            program = random_program(chance) if count % 2 else winding_program(chance)
            self.assert_guesses(program, guessed_anew(program))
            great += len(guesses(program)) == 400
        self.assertGreater(great, 0)

    def test_lists_are_the_askers_own(self):
        program = (1, 0, [("ask", ((x(0), ZERO, 5),), 1, 1), END])
        told = guesses(program)
        before = list(told)
        told.append("more")
        told[0] = "other"
        self.assertEqual(guesses(program), before)

    def test_by_turns_and_behind_a_change(self):
        one, other = (1, 0, [("set", 0, None, 5, 1), END]), (1, 0, [("set", 0, None, 6, 1), END])
        for again in range(2):
            self.assertIn((0, (x(0), ZERO, 5)), guesses(one))
            self.assertNotIn((0, (x(0), ZERO, 5)), guesses(other))
        told = guesses(one)
        before = list(told)
        one[2][0] = ("set", 0, None, 6, 1)
        self.assertEqual(told, before)
        self.assertEqual(guesses(one), guesses(other))


if __name__ == "__main__":
    unittest.main()
