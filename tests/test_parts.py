import unittest

from helper import FAR, ZERO, ask, told_of

NAMES = 3
ROWS = 2
LINES = 5
AT = 2

# Of each word a right line, and what stands behind the word, part by part.
SHAPES = (
    (("set", 1, 1, 5, 1), ("name", "value", "number", "way")),
    (("sum", 1, 1, 1, 1), ("name", "name", "value", "way")),
    (("len", 1, 1, 1), ("name", "row", "way")),
    (("take", 1, 1), ("name", "way")),
    (("get", 1, 1, 1, 5, 1), ("name", "row", "value", "number", "way")),
    (("put", 1, 1, 5, 1, 1), ("row", "value", "number", "name", "way")),
    (("tell", 1, 1), ("name", "way")),
    (("test", 1, 1, 5, 1, 1), ("value", "value", "number", "way", "way")),
)
RIGHT = {
    "name": (0, NAMES - 1),
    "value": (None, 0, NAMES - 1),
    "row": (0, ROWS - 1),
    "way": (0, LINES - 1),
    "number": (-1000, -999, -1, 0, 1, 999, 1000),
}
WRONG = {
    "name": (NAMES, NAMES + 1, -1, -NAMES, FAR, -FAR),
    "value": (NAMES, NAMES + 1, -1, -NAMES, FAR, -FAR),
    "row": (ROWS, ROWS + 1, -1, -ROWS, FAR, -FAR),
    "way": (LINES, LINES + 1, -1, -LINES, FAR, -FAR),
    "number": (-1001, 1001, FAR, -FAR),
}


def with_line(line):
    lines = [("end",)] * LINES
    lines[AT] = line
    return (NAMES, ROWS, lines)


def changed(line, at, part):
    return line[:at] + (part,) + line[at + 1:]


class Parts(unittest.TestCase):
    def test_each_part_at_its_edges(self):
        for line, kinds in SHAPES:
            self.assertEqual(told_of(with_line(line)), "right", line)
            for at, kind in enumerate(kinds, start=1):
                for part in RIGHT[kind]:
                    tried = changed(line, at, part)
                    self.assertEqual(told_of(with_line(tried)), "right", tried)

    def test_each_part_beyond_its_edges(self):
        for line, kinds in SHAPES:
            for at, kind in enumerate(kinds, start=1):
                for part in WRONG[kind]:
                    tried = changed(line, at, part)
                    self.assertEqual(told_of(with_line(tried)), AT, tried)

    def test_all_parts_at_their_last(self):
        for line, kinds in SHAPES:
            tried = (line[0],) + tuple(RIGHT[kind][-1] for kind in kinds)
            self.assertEqual(told_of(with_line(tried)), "right", tried)

    def test_all_values_none(self):
        for line in (("set", 0, None, 0, 0), ("sum", 0, 0, None, 0), ("get", 0, 0, None, 0, 0),
                     ("put", 0, None, 0, 0, 0), ("test", None, None, 0, 0, 0)):
            self.assertEqual(told_of(with_line(line)), "right", line)

    def test_no_names(self):
        for line in (("set", 0, None, 0, 0), ("take", 0, 0), ("tell", 0, 0), ("put", 0, None, 0, 0, 0),
                     ("test", 0, None, 0, 0, 0), ("test", None, 0, 0, 0, 0), ("len", 0, 0, 0)):
            self.assertEqual(told_of((0, 1, [line])), 0, line)
        self.assertEqual(told_of((0, 0, [("test", None, None, 0, 0, 0)])), "right")

    def test_no_rows(self):
        for line in (("len", 0, 0, 0), ("get", 0, 0, None, 0, 0), ("put", 0, None, 0, 0, 0)):
            self.assertEqual(told_of((1, 0, [line])), 0, line)
            self.assertEqual(told_of((1, 1, [line])), "right", line)

    def test_the_greatest_program_uses_its_last(self):
        lines = [("end",)] * 70
        lines[69] = ("get", 5, 2, 5, 1000, 69)
        self.assertEqual(told_of((6, 3, lines)), "right")
        for at, part in ((1, 6), (2, 3), (3, 6), (4, 1001), (5, 70)):
            tried = lines[:69] + [changed(lines[69], at, part)]
            self.assertEqual(told_of((6, 3, tried)), 69, part)

    def test_the_program_s_own_counts_are_asked(self):
        # Names, rows and lines that another program may have are not there in this one.
        self.assertEqual(told_of((1, 3, [("tell", 1, 0)])), 0)
        self.assertEqual(told_of((6, 1, [("len", 0, 1, 0)])), 0)
        self.assertEqual(told_of((6, 3, [("tell", 1, 1)])), 0)
        self.assertEqual(told_of((2, 3, [("tell", 1, 0)])), "right")
        # Three unlike counts, so that none can stand for another.
        self.assertEqual(told_of((4, 2, [("len", 3, 1, 0)])), "right")
        self.assertEqual(told_of((4, 2, [("len", 3, 2, 0)])), 0)


class FirstWrongLine(unittest.TestCase):
    def test_each_line_by_itself(self):
        for at in range(70):
            lines = [("tell", 0, 0)] * 70
            lines[at] = ("tell", 1, 0)
            self.assertEqual(told_of((1, 0, lines)), at)

    def test_later_ones_wrong_too(self):
        lines = [("end",)] * 6
        for at, line in ((5, ("tell", 9, 0)), (4, ("tell", 0, -1)), (3, ("len", 0, 9, 0)),
                         (2, ("set", 0, None, 1001, 0)), (1, ("ask", (), 0, 0)), (0, ("tell", 0, 6))):
            lines[at] = line
            self.assertEqual(told_of((1, 1, lines)), at)

    def test_lines_that_are_not_come_to(self):
        self.assertEqual(told_of((1, 0, [("end",), ("tell", 1, 0)])), 1)
        self.assertEqual(told_of((1, 0, [("tell", 0, 2), ("tell", 0, 3), ("end",)])), 1)

    def test_a_ring_at_an_earlier_line(self):
        self.assertEqual(told_of((1, 0, [ask(0, 0), ("tell", 1, 0)])), 1)
        self.assertEqual(told_of((1, 0, [ask(1, 1), ask(0, 0), ("end",), ask(0, 4)])), 3)
        self.assertEqual(told_of((1, 0, [ask(0, 0), ("set", 0, None, 1001, 0), ("tell", 1, 0)])), 1)


def with_bounds(bounds):
    return with_line(("ask", bounds, 0, LINES - 1))


class Asks(unittest.TestCase):
    def test_how_many_bounds(self):
        bound = (("name", 0, 0), ("len", 0), 0)
        for count in (1, 2, 3, 4):
            self.assertEqual(told_of(with_bounds((bound,) * count)), "right", count)
        for count in (0, 5, 6, 100):
            self.assertEqual(told_of(with_bounds((bound,) * count)), AT, count)

    def test_ways(self):
        bounds = ((ZERO, ZERO, 0),)
        for way in RIGHT["way"]:
            self.assertEqual(told_of(with_line(("ask", bounds, way, 1))), "right", way)
            self.assertEqual(told_of(with_line(("ask", bounds, 1, way))), "right", way)
        for way in WRONG["way"]:
            self.assertEqual(told_of(with_line(("ask", bounds, way, 1))), AT, way)
            self.assertEqual(told_of(with_line(("ask", bounds, 1, way))), AT, way)

    def refused_at_each_place(self, bound):
        right = (ZERO, ("len", 0), 0)
        for count in (1, 2, 3, 4):
            for place in range(count):
                bounds = [right] * count
                bounds[place] = bound
                self.assertEqual(told_of(with_bounds(tuple(bounds))), AT, bounds)

    def test_written_numbers(self):
        for c in RIGHT["number"]:
            self.assertEqual(told_of(with_bounds(((ZERO, ZERO, c),))), "right", c)
            self.assertEqual(told_of(with_bounds(((ZERO, ZERO, 0),) * 3 + ((ZERO, ZERO, c),))), "right", c)
        for c in WRONG["number"]:
            self.refused_at_each_place((ZERO, ZERO, c))

    def test_nodes_that_are_there(self):
        nodes = [ZERO, ("name", 0, 0), ("name", NAMES - 1, 0), ("len", 0), ("len", ROWS - 1)]
        for a in nodes:
            for b in nodes:
                self.assertEqual(told_of(with_bounds(((a, b, -7),))), "right", (a, b))

    def test_nodes_that_are_not_there(self):
        nodes = [("name", x, 0) for x in WRONG["name"]]
        nodes = nodes + [("name", NAMES - 1, v) for v in (1, 2, 200, FAR, -1, -FAR)]
        nodes = nodes + [("len", r) for r in WRONG["row"]]
        for node in nodes:
            self.refused_at_each_place((node, ZERO, 0))
            self.refused_at_each_place((ZERO, node, 0))
            self.refused_at_each_place((node, node, 0))

    def test_nodes_without_names_or_rows(self):
        lines = [("ask", ((("name", 0, 0), ZERO, 0),), 1, 1), ("end",)]
        self.assertEqual(told_of((0, 3, lines)), 0)
        self.assertEqual(told_of((1, 0, lines)), "right")
        lines = [("ask", ((ZERO, ("len", 0), 0),), 1, 1), ("end",)]
        self.assertEqual(told_of((6, 0, lines)), 0)
        self.assertEqual(told_of((0, 1, lines)), "right")


if __name__ == "__main__":
    unittest.main()
