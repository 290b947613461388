import copy
import random
import unittest

from helper import ZERO, ask, kinds_of, random_program, winding_program
from lookspare.cuts import come_to, cuts, into
from lookspare.lines import ways
from lookspare.trails import trail, trail_by

# Cuts are 0, 2 (a loop's head), 7 (both ways of an ask meet there) and 10; lines 11 and 12 are not come to.
LINES = [
    ("take", 0, 1),
    ("len", 1, 0, 2),
    ("test", 0, 1, -1, 3, 6),
    ("test", 0, None, -1, 10, 4),
    ("get", 2, 0, 0, 0, 5),
    ("set", 0, 0, 1, 2),
    ("ask", ((("name", 0, 0), ZERO, 5), (ZERO, ("len", 0), 0)), 7, 7),
    ("tell", 2, 8),
    ("ask", ((("name", 2, 0), ZERO, 0),), 9, 10),
    ("put", 0, None, 0, 2, 10),
    ("end",),
    ("set", 0, 0, 1, 4),
    ("tell", 0, 11),
]
TRAILS = {
    0: (0, []),
    1: (0, [(0, 0)]),
    2: (2, []),
    3: (2, [(2, 0)]),
    4: (2, [(2, 0), (3, 1)]),
    5: (2, [(2, 0), (3, 1), (4, 0)]),
    6: (2, [(2, 1)]),
    7: (7, []),
    8: (7, [(7, 0)]),
    9: (7, [(7, 0), (8, 0)]),
    10: (10, []),
}
# The trails by each way into a cut.
TRAILS_IN = {
    (1, 0): (0, [(0, 0), (1, 0)]),
    (5, 0): (2, [(2, 0), (3, 1), (4, 0), (5, 0)]),
    (6, 0): (2, [(2, 1), (6, 0)]),
    (6, 1): (2, [(2, 1), (6, 1)]),
    (3, 0): (2, [(2, 0), (3, 0)]),
    (8, 1): (7, [(7, 0), (8, 1)]),
    (9, 0): (7, [(7, 0), (8, 0), (9, 0)]),
}


def made():
    return (3, 1, list(LINES))


def wrong_with_trail(program, told, line):
    """What is wrong with a trail to the line, or None."""
    if type(told) is not tuple or type(told[1]) is not list or len(told) != 2:
        return "no tuple of a cut and a list"
    at = told[0]
    if at not in cuts(program):
        return "begins at no cut"
    for number, (place, which) in enumerate(told[1]):
        if place != at:
            return "not end to end"
        if number > 0 and place in cuts(program):
            return "goes through a cut"
        at = ways(program[2][place])[which]
    return None if at == line else "leads elsewhere"


class Trails(unittest.TestCase):
    def test_each_line(self):
        program = made()
        self.assertEqual(cuts(program), [0, 2, 7, 10])
        self.assertEqual(sorted(TRAILS), come_to(program))
        for line in TRAILS:
            self.assertEqual(trail(program, line), TRAILS[line], line)
            self.assertEqual(kinds_of(trail(program, line)), kinds_of(TRAILS[line]), line)
        self.assertEqual(program, made())

    def test_by_each_way_into_a_cut(self):
        program = made()
        led = [way for line in cuts(program) for way in into(program, line) if way is not None]
        self.assertEqual(sorted(led), sorted(TRAILS_IN))
        for way in TRAILS_IN:
            self.assertEqual(trail_by(program, way), TRAILS_IN[way], way)
            self.assertEqual(kinds_of(trail_by(program, way)), kinds_of(TRAILS_IN[way]), way)
        self.assertEqual(program, made())

    def test_by_a_way_into_a_line_that_is_no_cut(self):
        program = made()
        for line in (1, 3, 4, 5, 6, 8, 9):
            self.assertEqual(trail_by(program, into(program, line)[0]), TRAILS[line])

    def test_one_line(self):
        self.assertEqual(trail((0, 0, [("end",)]), 0), (0, []))
        self.assertEqual(trail((1, 0, [("take", 0, 0)]), 0), (0, []))
        self.assertEqual(trail_by((1, 0, [("take", 0, 0)]), (0, 0)), (0, [(0, 0)]))

    def test_back_to_the_cut_that_it_came_from(self):
        for fork in (("test", 0, None, 0, 0, 1), ask(0, 1)):
            program = (1, 0, [fork, ("set", 0, 0, 1, 0)])
            self.assertEqual(trail_by(program, (0, 0)), (0, [(0, 0)]))
            self.assertEqual(trail_by(program, (1, 0)), (0, [(0, 1), (1, 0)]))

    def test_both_ways_of_one_line_into_one(self):
        for fork in (("test", 0, None, 0, 2, 2), ask(2, 2)):
            program = (1, 0, [("take", 0, 1), fork, ("end",)])
            self.assertEqual(trail_by(program, (1, 0)), (0, [(0, 0), (1, 0)]))
            self.assertEqual(trail_by(program, (1, 1)), (0, [(0, 0), (1, 1)]))
            self.assertEqual(trail(program, 2), (2, []))

    def test_a_way_of_a_line_not_come_to_makes_no_cut(self):
        program = (1, 0, [("take", 0, 1), ("tell", 0, 2), ("end",), ("tell", 0, 1), ("test", 0, 0, 0, 2, 2)])
        self.assertEqual(trail(program, 1), (0, [(0, 0)]))
        self.assertEqual(trail(program, 2), (0, [(0, 0), (1, 0)]))

    def test_seventy_lines(self):
        # Against the order of the lines: 0, then 69, 68 and so on.
        program = (1, 0, [("take", 0, 69), ("end",)] + [("tell", 0, at - 1) for at in range(2, 70)])
        steps = [(0, 0)] + [(at, 0) for at in range(69, 1, -1)]
        for count in range(70):
            line = ([0] + list(range(69, 0, -1)))[count]
            self.assertEqual(trail(program, line), (0, steps[:count]))
        program[2][1] = ("tell", 0, 69)
        self.assertEqual(trail(program, 2), (69, steps[1:68]))
        self.assertEqual(trail_by(program, (1, 0)), (69, steps[1:] + [(1, 0)]))

    def test_trails_of_programs(self):
        chance = random.Random(23)
        longest = 0
        for count in range(400):
            program = random_program(chance) if count % 2 else winding_program(chance)
            before = copy.deepcopy(program)
            for line in come_to(program):
                told = trail(program, line)
                self.assertIsNone(wrong_with_trail(program, told, line), (program, line))
                self.assertEqual(told[1] == [], line in cuts(program), (program, line))
                longest = max(longest, len(told[1]))
                for way in into(program, line):
                    if way is not None:
                        self.assert_trail_by(program, way, line)
            self.assertEqual(program, before)
        self.assertGreater(longest, 6)

    def assert_trail_by(self, program, way, line):
        told = trail_by(program, way)
        self.assertIsNone(wrong_with_trail(program, told, line), (program, way))
        self.assertEqual(told, (trail(program, way[0])[0], trail(program, way[0])[1] + [way]), (program, way))


class Own(unittest.TestCase):
    def test_what_is_told_is_the_askers_own(self):
        program = made()
        for again in range(2):
            for line in TRAILS:
                told = trail(program, line)
                self.assertEqual(told, TRAILS[line])
                told[1].append("changed")
                told[1].reverse()
            for way in TRAILS_IN:
                told = trail_by(program, way)
                self.assertEqual(told, TRAILS_IN[way])
                told[1].clear()

    def test_what_was_told_stays_behind_a_change(self):
        program = made()
        told = {line: trail(program, line) for line in TRAILS}
        by = {way: trail_by(program, way) for way in TRAILS_IN}
        program[2][2] = ("end",)
        self.assertEqual(told, TRAILS)
        self.assertEqual(by, TRAILS_IN)
        self.assertEqual(trail(program, 2), (0, [(0, 0), (1, 0)]))

    def test_by_turns(self):
        other = (1, 0, [("take", 0, 1), ("tell", 0, 2), ("tell", 0, 3), ("test", 0, None, 0, 1, 4), ("end",)])
        told = {0: (0, []), 1: (1, []), 2: (1, [(1, 0)]), 3: (1, [(1, 0), (2, 0)]), 4: (1, [(1, 0), (2, 0), (3, 1)])}
        program = made()
        for line in told:
            self.assertEqual(trail(program, line), TRAILS[line])
            self.assertEqual(trail(other, line), told[line])


if __name__ == "__main__":
    unittest.main()
