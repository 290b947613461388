import copy
import random
import unittest

from helper import FAR, ZERO, kinds_of, random_program, random_ways, winding_program
from lookspare.lines import gives
from lookspare.trails import at_end, trail, versions

END = ("end",)
# Goes round and round: names 0 and 1 are given once a round, name 2 is given by the get alone, name 3 by none.
LINES = [
    ("take", 0, 1),
    ("test", 0, 3, 0, 2, 3),
    ("get", 2, 0, 2, 0, 3),
    ("set", 1, 1, 1, 4),
    ("put", 0, 3, 0, 3, 5),
    ("tell", 3, 6),
    ("ask", ((("name", 3, 0), ("name", 2, 0), 0),), 0, 7),
    END,
]
SHORT = [(0, 0), (1, 1), (3, 0), (4, 0), (5, 0), (6, 0)]
LONG = [(0, 0), (1, 0), (2, 0), (3, 0), (4, 0), (5, 0), (6, 0)]


def made():
    return (4, 1, list(LINES))


def x(name, version):
    return ("name", name, version)


class Versions(unittest.TestCase):
    def test_no_steps(self):
        for names in range(7):
            told = versions((names, 0, [END]), [])
            self.assertEqual(told, [0] * names)
            self.assertEqual(kinds_of(told), [int] * names)

    def test_along_the_steps(self):
        program = made()
        course = SHORT + LONG
        told = [
            [0, 0, 0, 0], [1, 0, 0, 0], [1, 0, 0, 0], [1, 1, 0, 0], [1, 1, 0, 0], [1, 1, 0, 0], [1, 1, 0, 0],
            [2, 1, 0, 0], [2, 1, 0, 0], [2, 1, 1, 0], [2, 2, 1, 0], [2, 2, 1, 0], [2, 2, 1, 0], [2, 2, 1, 0],
        ]
        for count, counts in enumerate(told):
            steps = course[:count]
            self.assertEqual(versions(program, steps), counts, count)
            self.assertEqual(kinds_of(versions(program, steps)), [int] * 4, count)
            self.assertEqual(steps, course[:count])
        self.assertEqual(program, made())

    def test_each_word(self):
        for line, given in (
            (("set", 1, 0, 0, 0), 1), (("set", 1, 1, 0, 0), 1), (("set", 1, None, 0, 0), 1), (("sum", 1, 0, 0, 0), 1),
            (("len", 1, 0, 0), 1), (("take", 1, 0), 1), (("get", 1, 0, 0, 0, 0), 1), (("put", 0, 1, 0, 1, 0), 0),
            (("tell", 1, 0), 0), (("test", 1, 1, 0, 0, 0), 0),
        ):
            self.assertEqual(versions((2, 1, [line]), [(0, 0)]), [0, given], line)
        for which in (0, 1):
            asking = (2, 1, [("ask", ((x(1, 0), x(1, 0), 0),), 1, 1), END])
            self.assertEqual(versions(asking, [(0, which)]), [0, 0])
            testing = (2, 1, [("test", 1, 1, 0, 0, 0)])
            self.assertEqual(versions(testing, [(0, which)]), [0, 0])

    def test_no_names(self):
        program = (0, 1, [("test", None, None, 0, 1, 0), ("ask", ((ZERO, ("len", 0), 0),), 0, 0)])
        self.assertEqual(versions(program, [(0, 0), (1, 1), (0, 1)]), [])

    def test_many_times(self):
        program = made()
        self.assertEqual(versions(program, LONG * 28), [28, 28, 28, 0])
        self.assertEqual(versions((6, 0, [("take", 5, 0)]), [(0, 0)] * 200), [0, 0, 0, 0, 0, 200])

    def test_from_any_line_on(self):
        program = made()
        self.assertEqual(versions(program, LONG[2:]), [0, 1, 1, 0])
        self.assertEqual(versions(program, LONG[4:] + LONG[:1]), [1, 0, 0, 0])

    def test_as_many_as_lines_give(self):
        chance = random.Random(240)
        for count in range(300):
            program = random_program(chance) if count % 2 else winding_program(chance)
            steps = random_ways(chance, program, chance.randrange(len(program[2])), 200)
            given = [gives(program[2][at]) for at, which in steps]
            self.assertEqual(versions(program, steps), [given.count(name) for name in range(program[0])])

    def test_what_is_told_is_the_askers_own(self):
        program = made()
        for again in range(2):
            for steps, told in (([], [0, 0, 0, 0]), (SHORT, [1, 1, 0, 0])):
                counts = versions(program, steps)
                self.assertEqual(counts, told)
                counts[3] = 9
                counts.append(9)

    def test_what_was_told_stays_behind_a_change(self):
        program = made()
        steps = list(LONG)
        told = versions(program, steps)
        program[2][0] = ("take", 3, 1)
        steps.pop()
        self.assertEqual(told, [1, 1, 1, 0])
        self.assertEqual(versions(program, steps), [0, 1, 1, 1])


class AtEnd(unittest.TestCase):
    def test_nought_and_lengths_stay(self):
        program = (4, 3, list(LINES))
        for steps in ([], SHORT, LONG):
            for bound in (
                (ZERO, ZERO, 0), (ZERO, ("len", 0), -1), (("len", 2), ("len", 1), 10 ** 12), (("len", 0), ZERO, -FAR),
            ):
                self.assertEqual(at_end(program, steps, bound), bound)
                self.assertEqual(kinds_of(at_end(program, steps, bound)), kinds_of(bound))

    def test_names_at_the_begin(self):
        for bound in ((x(0, 0), x(1, 0), 4), (x(2, 0), ZERO, -4), (("len", 0), x(3, 0), 0), (x(1, 0), x(1, 0), -1)):
            self.assertEqual(at_end(made(), [], bound), bound)

    def test_names_behind_steps(self):
        program = made()
        for bound, told in (
            ((x(0, 0), x(1, 0), 4), (x(0, 3), x(1, 3), 4)),
            ((x(1, 0), x(0, 0), -4), (x(1, 3), x(0, 3), -4)),
            ((x(2, 0), ZERO, 1), (x(2, 2), ZERO, 1)),
            ((ZERO, x(2, 0), 1), (ZERO, x(2, 2), 1)),
            ((("len", 0), x(2, 0), -(10 ** 12)), (("len", 0), x(2, 2), -(10 ** 12))),
            ((x(3, 0), x(0, 0), 0), (x(3, 0), x(0, 3), 0)),
            ((x(3, 0), x(3, 0), 0), (x(3, 0), x(3, 0), 0)),
            ((x(1, 0), x(1, 0), 0), (x(1, 3), x(1, 3), 0)),
        ):
            steps = LONG + SHORT + LONG
            self.assertEqual(at_end(program, steps, bound), told)
            self.assertEqual(kinds_of(at_end(program, steps, bound)), kinds_of(told))
            self.assertEqual(steps, LONG + SHORT + LONG)
        self.assertEqual(program, made())

    def test_a_name_or_a_row_that_the_program_lacks(self):
        bound = (x(5, 0), ("len", 2), 3)
        for steps in ([], SHORT, LONG):
            self.assertEqual(at_end(made(), steps, bound), bound)
        self.assertEqual(at_end((0, 0, [END]), [], (x(0, 0), ZERO, 3)), (x(0, 0), ZERO, 3))

    def test_two_hundred_steps(self):
        program = (6, 0, [("take", 5, 0)])
        self.assertEqual(at_end(program, [(0, 0)] * 200, (x(5, 0), x(4, 0), 0)), (x(5, 200), x(4, 0), 0))

    def test_by_the_versions(self):
        chance = random.Random(241)
        for count in range(300):
            program = random_program(chance) if count % 2 else winding_program(chance)
            before = copy.deepcopy(program)
            steps = random_ways(chance, program, chance.randrange(len(program[2])), 200)
            counts = versions(program, steps)
            for a in range(program[0]):
                for b in range(program[0]):
                    told = at_end(program, steps, (x(a, 0), x(b, 0), count))
                    self.assertEqual(told, (x(a, counts[a]), x(b, counts[b]), count))
                self.assertEqual(at_end(program, steps, (ZERO, x(a, 0), -1)), (ZERO, x(a, counts[a]), -1))
            self.assertEqual(program, before)

    def test_by_turns(self):
        one, other = made(), (1, 0, [("take", 0, 0)])
        for again in range(2):
            self.assertEqual(at_end(one, LONG, (x(2, 0), x(0, 0), 0)), (x(2, 1), x(0, 1), 0))
            self.assertEqual(at_end(other, [(0, 0)] * 5, (x(0, 0), ZERO, 0)), (x(0, 5), ZERO, 0))
            self.assertEqual(versions(other, [(0, 0)] * 5), [5])
            self.assertEqual(versions(one, trail(one, 2)[1]), [1, 0, 0, 0])


if __name__ == "__main__":
    unittest.main()
