import copy
import unittest

from helper import ZERO, kinds_of
from lookspare.walks import Walk, run

# Takes a place, puts there what it takes next, tells what stood there; an ask leads back as long as room is left.
LINES = [
    ("take", 0, 1),
    ("get", 1, 1, 0, 0, 2),
    ("tell", 1, 3),
    ("take", 2, 4),
    ("put", 1, 0, 0, 2, 5),
    ("set", 2, 2, 1, 6),
    ("ask", ((("name", 2, 0), ("len", 1), 5), (ZERO, ("name", 0, 0), 0)), 0, 7),
    ("end",),
]
ROWS = [[], [1, 2, 3]]
TAKEN = [2, 5, 0, 9, 1, 30]
# What is told and the frame ahead of all and behind each step.
COURSE = [
    ((None, [], 0, [[], [1, 2, 3]]), (0, [0, 0, 0])),
    ((None, [], 1, [[], [1, 2, 3]]), (1, [2, 0, 0])),
    ((None, [], 2, [[], [1, 2, 3]]), (2, [2, 3, 0])),
    ((None, [3], 3, [[], [1, 2, 3]]), (3, [2, 3, 0])),
    ((None, [3], 4, [[], [1, 2, 3]]), (4, [2, 3, 5])),
    ((None, [3], 5, [[], [1, 2, 5]]), (5, [2, 3, 5])),
    ((None, [3], 6, [[], [1, 2, 5]]), (6, [2, 3, 6])),
    ((None, [3], 7, [[], [1, 2, 5]]), (1, [0, 3, 6])),
    ((None, [3], 8, [[], [1, 2, 5]]), (2, [0, 1, 6])),
    ((None, [3, 1], 9, [[], [1, 2, 5]]), (3, [0, 1, 6])),
    ((None, [3, 1], 10, [[], [1, 2, 5]]), (4, [0, 1, 9])),
    ((None, [3, 1], 11, [[], [9, 2, 5]]), (5, [0, 1, 9])),
    ((None, [3, 1], 12, [[], [9, 2, 5]]), (6, [0, 1, 10])),
    ((("end", 7), [3, 1], 12, [[], [9, 2, 5]]), (7, [0, 1, 10])),
    ((("end", 7), [3, 1], 12, [[], [9, 2, 5]]), (7, [0, 1, 10])),
]


def made(budget=50):
    return Walk((3, 2, list(LINES)), copy.deepcopy(ROWS), list(TAKEN), budget)


class Tells(unittest.TestCase):
    def test_all_along(self):
        walk = made()
        for told, frame in COURSE:
            for again in range(2):
                self.assertEqual(walk.told(), told)
                self.assertEqual(walk.frame(), frame)
                self.assertEqual(kinds_of(walk.told()), kinds_of(told))
                self.assertEqual(kinds_of(walk.frame()), kinds_of(frame))
            self.assertIsNone(walk.step())

    def test_frame_behind_each_end(self):
        for budget, line, numbers in ((6, 0, [2, 3, 6]), (3, 3, [2, 3, 0]), (12, 7, [0, 1, 10])):
            walk = made(budget)
            for step in range(20):
                walk.step()
            self.assertEqual(walk.told()[0], ("end" if line == 7 else "spent", line))
            self.assertEqual(walk.frame(), (line, numbers))

    def test_a_change_of_what_was_told(self):
        walk = made()
        for told, frame in COURSE:
            first = walk.told()
            first[1].append(77)
            first[3].append([])
            first[3][0].append(77)
            first[3][1].clear()
            walk.told()[3].clear()
            values = walk.frame()[1]
            values[0] = 1
            values.append(77)
            self.assertEqual(walk.told(), told)
            self.assertEqual(walk.frame(), frame)
            walk.step()

    def test_what_was_told_stays_as_it_was(self):
        walk = made()
        kept = []
        for told, frame in COURSE:
            kept.append((walk.told(), walk.frame()))
            walk.step()
        self.assertEqual(kept, COURSE)

    def test_a_change_of_what_was_handed_in(self):
        for moment in range(len(COURSE)):
            program, rows, taken = (3, 2, list(LINES)), copy.deepcopy(ROWS), list(TAKEN)
            walk = Walk(program, rows, taken, 50)
            for at, (told, frame) in enumerate(COURSE):
                if at == moment:
                    rows[0].append(5)
                    rows[1].clear()
                    rows.clear()
                    taken.clear()
                    program[2][:] = [("end",)]
                self.assertEqual(walk.told(), told)
                self.assertEqual(walk.frame(), frame)
                walk.step()

    def test_what_is_handed_in_stays(self):
        program, rows, taken = (3, 2, list(LINES)), copy.deepcopy(ROWS), list(TAKEN)
        walk = Walk(program, rows, taken, 50)
        for told, frame in COURSE:
            walk.step()
            self.assertEqual((program, rows, taken), ((3, 2, LINES), ROWS, TAKEN))
        self.assertEqual(run(program, rows, taken, 50), COURSE[-1][0])
        self.assertEqual((program, rows, taken), ((3, 2, LINES), ROWS, TAKEN))

    def test_one_list_as_several_rows(self):
        row = [1, 2]
        program = (1, 3, [("set", 0, None, 9, 1), ("put", 1, None, 0, 0, 2), ("end",)])
        self.assertEqual(run(program, [row, row, row], [], 9)[3], [[1, 2], [9, 2], [1, 2]])
        self.assertEqual(row, [1, 2])
        told = Walk(program, [row, row, row], [], 9).told()[3]
        told[0].append(3)
        self.assertEqual(told[1:], [[1, 2], [1, 2]])

    def test_the_taken_numbers_as_a_row(self):
        numbers = [4, 5]
        program = (1, 1, [("take", 0, 1), ("put", 0, None, 1, 0, 2), ("take", 0, 3), ("tell", 0, 4), ("end",)])
        self.assertEqual(run(program, [numbers], numbers, 9), (("end", 4), [5], 4, [[4, 4]]))
        self.assertEqual(numbers, [4, 5])

    def test_two_walks_by_turns(self):
        program, rows, taken = (3, 2, list(LINES)), copy.deepcopy(ROWS), list(TAKEN)
        first, second = Walk(program, rows, taken, 50), Walk(program, rows, taken, 50)
        first.step()
        first.step()
        for at, (told, frame) in enumerate(COURSE):
            self.assertEqual((second.told(), second.frame()), (told, frame))
            self.assertEqual((first.told(), first.frame()), COURSE[min(at + 2, 14)])
            second.step()
            first.step()

    def test_run_tells_what_told_tells_at_the_end(self):
        for budget in range(15):
            walk = made(budget)
            while walk.told()[0] is None:
                walk.step()
            told = run((3, 2, list(LINES)), copy.deepcopy(ROWS), list(TAKEN), budget)
            self.assertEqual(told, walk.told())
            self.assertEqual(kinds_of(told), kinds_of(walk.told()))
            told[1].clear()
            told[3][1].clear()
            self.assertEqual(run((3, 2, list(LINES)), copy.deepcopy(ROWS), list(TAKEN), budget), walk.told())

    def test_names_and_rows_of_none(self):
        walk = Walk((0, 0, [("end",)]), [], [], 0)
        self.assertEqual((walk.told(), walk.frame()), ((None, [], 0, []), (0, [])))

    def test_made_by_the_names_of_its_arguments(self):
        program = (0, 0, [("end",)])
        walk = Walk(program=program, rows=[], taken=[], budget=0)
        walk.step()
        self.assertEqual(walk.told(), run(program=program, rows=[], taken=[], budget=0))


if __name__ == "__main__":
    unittest.main()
