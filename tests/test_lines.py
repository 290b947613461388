import copy
import unittest

from helper import ZERO
from lookspare.lines import gives, ways

BOUND = (("name", 5, 0), ("len", 2), -1)
BOUNDS = ((ZERO, ZERO, 0), BOUND, (("len", 0), ZERO, 1000), (("name", 0, 0), ("name", 1, 0), 8))

# A line, its ways, the name that it gives. No number stands twice in a line where it could be mixed up.
TOLD = (
    (("set", 5, 4, -3, 21), (21,), 5),
    (("set", 5, None, 3, 21), (21,), 5),
    (("set", 0, 4, 3, 21), (21,), 0),
    (("set", 0, 0, 0, 0), (0,), 0),
    (("sum", 5, 4, 3, 21), (21,), 5),
    (("sum", 5, 4, None, 21), (21,), 5),
    (("sum", 0, 4, 3, 21), (21,), 0),
    (("len", 5, 2, 21), (21,), 5),
    (("len", 0, 2, 21), (21,), 0),
    (("take", 5, 21), (21,), 5),
    (("take", 0, 21), (21,), 0),
    (("get", 5, 2, 4, -3, 21), (21,), 5),
    (("get", 5, 2, None, 3, 21), (21,), 5),
    (("get", 0, 2, 4, 3, 21), (21,), 0),
    (("put", 2, 4, 3, 5, 21), (21,), None),
    (("put", 2, None, 3, 5, 21), (21,), None),
    (("put", 0, 0, 0, 0, 0), (0,), None),
    (("tell", 5, 21), (21,), None),
    (("tell", 0, 0), (0,), None),
    (("test", 5, 4, 3, 21, 22), (21, 22), None),
    (("test", None, 4, 3, 22, 21), (22, 21), None),
    (("test", 5, None, 3, 0, 69), (0, 69), None),
    (("test", None, None, 3, 69, 0), (69, 0), None),
    (("test", 0, 0, 0, 21, 21), (21, 21), None),
    (("ask", (BOUND,), 21, 22), (21, 22), None),
    (("ask", BOUNDS, 22, 21), (22, 21), None),
    (("ask", (BOUND,), 0, 0), (0, 0), None),
    (("end",), (), None),
)


class Lines(unittest.TestCase):
    def test_every_word_is_told_here(self):
        words = {line[0] for line, way, name in TOLD}
        self.assertEqual(len(words), 10)

    def test_ways(self):
        for line, way, name in TOLD:
            self.assertEqual(ways(line), way, line)
            self.assertIs(type(ways(line)), tuple, line)

    def test_gives(self):
        for line, way, name in TOLD:
            self.assertEqual(gives(line), name, line)
            self.assertIs(type(gives(line)), type(name), line)

    def test_numbers_beyond_a_right_program(self):
        self.assertEqual(ways(("take", 7, 10 ** 20)), (10 ** 20,))
        self.assertEqual(ways(("test", -1, -2, 5000, -3, 71)), (-3, 71))
        self.assertEqual(gives(("take", -1, 0)), -1)
        self.assertEqual(gives(("len", 10 ** 20, 0, 0)), 10 ** 20)

    def test_the_line_stays_and_the_answer_too(self):
        for line, way, name in TOLD:
            before = copy.deepcopy(line)
            for again in range(2):
                self.assertEqual((ways(line), gives(line)), (way, name))
                self.assertEqual(line, before)


if __name__ == "__main__":
    unittest.main()
