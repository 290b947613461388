import copy
import unittest

from helper import ask
from lookspare.programs import looks

GET = ("get", 0, 0, 1, 0, 1)
PUT = ("put", 0, None, 2, 1, 1)
OTHERS = [
    ("set", 0, None, 1, 1),
    ("sum", 0, 1, None, 1),
    ("len", 0, 0, 1),
    ("take", 0, 1),
    ("tell", 0, 1),
    ("test", 0, None, 1, 1, 1),
    ask(1, 8),
    ("end",),
]


def of(lines):
    return looks((2, 1, lines))


class Looks(unittest.TestCase):
    def test_no_place_line(self):
        self.assertEqual(of(list(OTHERS)), [])
        self.assertEqual(looks((0, 0, [("end",)])), [])

    def test_one_place_line(self):
        for place in (GET, PUT):
            self.assertEqual(of([place, ("end",)]), [(0, "low"), (0, "high")])
            self.assertEqual(of([("end",), place]), [(1, "low"), (1, "high")])

    def test_gets_and_puts_among_other_lines(self):
        lines = []
        for other in OTHERS:
            lines.append(other)
            lines.append(GET if len(lines) % 4 == 1 else PUT)
        told = []
        for at in (1, 3, 5, 7, 9, 11, 13, 15):
            told = told + [(at, "low"), (at, "high")]
        self.assertEqual(of(lines), told)

    def test_place_lines_side_by_side_up_to_the_last(self):
        told = []
        for at in range(70):
            told = told + [(at, "low"), (at, "high")]
        self.assertEqual(of([GET, PUT] * 35), told)

    def test_a_place_line_that_is_not_come_to(self):
        self.assertEqual(of([("tell", 0, 2), PUT, ("end",), GET]),
                         [(1, "low"), (1, "high"), (3, "low"), (3, "high")])

    def test_kinds(self):
        told = of([GET, ("end",)])
        self.assertIs(type(told), list)
        for look in told:
            self.assertIs(type(look), tuple)
            self.assertIs(type(look[0]), int)

    def test_behind_a_change_of_what_was_told(self):
        program = (2, 1, [GET, ("end",)])
        told = looks(program)
        told.append((1, "low"))
        told[0] = None
        self.assertEqual(looks(program), [(0, "low"), (0, "high")])
        looks(program).clear()
        self.assertEqual(looks(program), [(0, "low"), (0, "high")])

    def test_behind_a_change_of_the_program(self):
        program = (2, 1, [GET, ("end",)])
        first = looks(program)
        program[2][0] = ("tell", 0, 1)
        program[2].append(PUT)
        self.assertEqual(first, [(0, "low"), (0, "high")])
        self.assertEqual(looks(program), [(2, "low"), (2, "high")])
        program[2].clear()
        program[2].append(("end",))
        self.assertEqual(looks(program), [])
        self.assertEqual(first, [(0, "low"), (0, "high")])

    def test_the_program_stays(self):
        program = (2, 1, [GET, PUT] + OTHERS)
        before = copy.deepcopy(program)
        looks(program)
        self.assertEqual(program, before)


if __name__ == "__main__":
    unittest.main()
