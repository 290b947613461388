import copy
import unittest

from helper import ZERO, ask, told_of
from lookspare.errors import NoProgram
from lookspare.programs import check_program, looks


def right():
    return (3, 2, [
        ("take", 0, 1),
        ("len", 1, 0, 2),
        ("test", 0, 1, -1, 3, 7),
        ("ask", ((ZERO, ("name", 0, 0), 0), (("name", 0, 0), ("len", 0), -1)), 4, 7),
        ("get", 2, 0, 0, 0, 5),
        ("put", 1, None, 0, 2, 6),
        ("tell", 2, 0),
        ("end",),
    ])


def wrongs():
    """A refused program for each reason, with the line told."""
    most = right()[2]
    return (
        ((7, 2, list(most)), None),
        ((3, 4, list(most)), None),
        ((3, 2, []), None),
        ((3, 2, most[:6] + [("tell", 3, 0), ("end",)]), 6),
        ((3, 2, most[:3] + [("ask", (), 4, 7)] + most[4:]), 3),
        ((3, 2, most[:7] + [ask(7, 7)]), 7),
    )


class HandedIn(unittest.TestCase):
    def test_right_program_stays(self):
        program = right()
        self.assertIsNone(check_program(program))
        self.assertEqual(program, right())

    def test_refused_programs_stay(self):
        for program, line in wrongs():
            before = copy.deepcopy(program)
            with self.assertRaises(NoProgram) as caught:
                check_program(program)
            self.assertEqual(caught.exception.line, line)
            self.assertEqual(program, before)

    def test_right_again_behind_each_refusal(self):
        program = right()
        for wrong, line in wrongs():
            self.assertEqual(told_of(wrong), line)
            self.assertEqual(told_of(program), "right")
            self.assertEqual(told_of(wrong), line)

    def test_the_same_program_changed_and_mended(self):
        program = right()
        line = program[2][6]
        for again in range(2):
            self.assertEqual(told_of(program), "right")
            program[2][6] = ("tell", 3, 0)
            self.assertEqual(told_of(program), 6)
            program[2][6] = line

    def test_a_refusal_stays_behind_a_change(self):
        program = (3, 2, [("tell", 3, 0)])
        with self.assertRaises(NoProgram) as caught:
            check_program(program)
        program[2].insert(0, ("end",))
        self.assertEqual(caught.exception.line, 0)
        self.assertEqual(told_of(program), 1)

    def test_looks_behind_a_refusal(self):
        program = right()
        for wrong, line in wrongs():
            told_of(wrong)
            self.assertEqual(looks(program), [(4, "low"), (4, "high"), (5, "low"), (5, "high")])


if __name__ == "__main__":
    unittest.main()
