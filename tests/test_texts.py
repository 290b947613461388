import copy
import random
import unittest

from helper import ZERO, kinds_of, random_program
from lookspare.programs import check_program
from lookspare.texts import read, write

N0, N2, N5 = ("name", 0, 0), ("name", 2, 0), ("name", 5, 0)
R0, R2 = ("len", 0), ("len", 2)

# Each word, y and w as None and as names, numbers at their edges: a line and its row.
ROWS = (
    (("set", 0, 5, -1000, 69), "set n0 n5 -1000 69"),
    (("set", 5, None, 1000, 0), "set n5 - 1000 0"),
    (("set", 1, 0, 0, 7), "set n1 n0 0 7"),
    (("set", 0, None, -1, 10), "set n0 - -1 10"),
    (("sum", 1, 2, 3, 4), "sum n1 n2 n3 4"),
    (("sum", 4, 0, None, 12), "sum n4 n0 - 12"),
    (("len", 3, 2, 1), "len n3 r2 1"),
    (("len", 0, 0, 20), "len n0 r0 20"),
    (("take", 5, 6), "take n5 6"),
    (("take", 0, 0), "take n0 0"),
    (("get", 1, 2, 3, 4, 5), "get n1 r2 n3 4 5"),
    (("get", 5, 0, None, -999, 30), "get n5 r0 - -999 30"),
    (("get", 0, 1, 0, 0, 0), "get n0 r1 n0 0 0"),
    (("put", 1, 2, 3, 4, 5), "put r1 n2 3 n4 5"),
    (("put", 0, None, -7, 0, 69), "put r0 - -7 n0 69"),
    (("tell", 2, 3), "tell n2 3"),
    (("tell", 0, 0), "tell n0 0"),
    (("test", 1, 2, 3, 4, 5), "test n1 n2 3 4 5"),
    (("test", None, 0, -10, 40, 0), "test - n0 -10 40 0"),
    (("test", 5, None, 100, 0, 41), "test n5 - 100 0 41"),
    (("test", None, None, 0, 1, 2), "test - - 0 1 2"),
    (("ask", ((ZERO, ZERO, 0),), 1, 2), "ask 1 2 - - 0"),
    (("ask", ((N0, R2, -1000),), 68, 1), "ask 68 1 n0 r2 -1000"),
    (("ask", ((R0, N5, 1000), (ZERO, N2, -1)), 3, 4), "ask 3 4 r0 n5 1000 - n2 -1"),
    (("ask", ((N2, ZERO, 5), (R0, R0, 0), (R2, ZERO, -20)), 5, 5), "ask 5 5 n2 - 5 r0 r0 0 r2 - -20"),
    (("ask", ((ZERO, R2, 1), (N5, N0, -2), (N2, N2, 3), (ZERO, ZERO, -4)), 10, 11),
     "ask 10 11 - r2 1 n5 n0 -2 n2 n2 3 - - -4"),
    (("end",), "end"),
)
GIVEN = (
    (("get", 0, 1, 2, -1, 5), "get n0 r1 n2 -1 5"),
    (("set", 0, None, 3, 4), "set n0 - 3 4"),
    (("ask", ((("name", 1, 0), ("len", 0), -1),), 7, 2), "ask 7 2 n1 r0 -1"),
)


def of(line):
    # Behind the line as many ends as its ways may lead to.
    return (6, 3, [line] + [("end",)] * 69)


def text_of(row):
    return "\n".join(["names 6 rows 3", row] + ["end"] * 69)


def whole():
    return (6, 3, [line for line, row in ROWS] + [("end",)] * (70 - len(ROWS)))


class Texts(unittest.TestCase):
    def same_both_ways(self, program, text):
        before = copy.deepcopy(program)
        self.assertEqual(write(program), text)
        self.assertEqual(program, before)
        told = read(text)
        self.assertEqual(told, program)
        self.assertEqual(kinds_of(told), kinds_of(program))
        self.assertEqual(write(told), text)

    def test_each_row(self):
        for line, row in ROWS:
            self.same_both_ways(of(line), text_of(row))

    def test_the_rows_that_the_document_gives(self):
        for line, row in GIVEN:
            self.same_both_ways(of(line), text_of(row))

    def test_all_rows_in_one_text(self):
        rows = [row for line, row in ROWS] + ["end"] * (70 - len(ROWS))
        self.same_both_ways(whole(), "\n".join(["names 6 rows 3"] + rows))

    def test_the_first_row(self):
        for names in range(7):
            for rows in range(4):
                self.same_both_ways((names, rows, [("end",)]), f"names {names} rows {rows}\nend")

    def test_no_line_feed_behind_the_last_row(self):
        self.assertEqual(write((0, 0, [("end",)])), "names 0 rows 0\nend")
        self.assertEqual(write((1, 0, [("tell", 0, 0)] * 2)), "names 1 rows 0\ntell n0 0\ntell n0 0")

    def test_every_written_number(self):
        for c in range(-1000, 1001):
            row = f"set n0 - {c} 0"
            self.same_both_ways((1, 0, [("set", 0, None, c, 0)]), "names 1 rows 0\n" + row)
            self.same_both_ways((1, 0, [("ask", ((ZERO, ZERO, c),), 1, 1), ("end",)]),
                                f"names 1 rows 0\nask 1 1 - - {c}\nend")

    def test_every_name_row_and_line(self):
        for x in range(6):
            self.same_both_ways((6, 0, [("tell", x, 0)]), f"names 6 rows 0\ntell n{x} 0")
        for r in range(3):
            self.same_both_ways((1, 3, [("len", 0, r, 0)]), f"names 1 rows 3\nlen n0 r{r} 0")
        for k in range(70):
            self.same_both_ways(of(("take", 0, k)), text_of(f"take n0 {k}"))

    def test_kinds(self):
        told = read(text_of(ROWS[25][1]))
        self.assertIs(type(told), tuple)
        self.assertIs(type(told[0]), int)
        self.assertIs(type(told[1]), int)
        self.assertIs(type(told[2]), list)
        ask = told[2][0]
        self.assertIs(type(ask), tuple)
        self.assertIs(type(ask[1]), tuple)
        for bound in ask[1]:
            self.assertEqual([type(part) for part in bound], [tuple, tuple, int])
        self.assertEqual(ask[1][1], (("name", 5, 0), ("name", 0, 0), -2))
        self.assertIs(type(ask[1][1][0][2]), int)
        for line in read(write(whole()))[2]:
            self.assertIs(type(line), tuple)
            self.assertNotIn(True, [part is True or part is False for part in line])
        self.assertIs(type(write(whole())), str)

    def test_behind_another_program(self):
        first, second = whole(), (1, 1, [("get", 0, 0, 0, 0, 1), ("end",)])
        texts = [write(first), write(second)]
        for again in range(2):
            for program, text in zip((first, second), texts):
                self.assertEqual(write(program), text)
                self.assertEqual(read(text), program)

    def test_behind_a_change_of_what_was_read(self):
        text = write(whole())
        told = read(text)
        told[2][0] = ("end",)
        told[2].append(("tell", 0, 0))
        self.assertEqual(read(text), whole())
        read(text)[2].clear()
        self.assertEqual(read(text), whole())

    def test_behind_a_change_of_what_was_written(self):
        program = (1, 0, [("tell", 0, 1), ("end",)])
        text = write(program)
        program[2][0] = ("take", 0, 1)
        self.assertEqual(text, "names 1 rows 0\ntell n0 1\nend")
        self.assertEqual(write(program), "names 1 rows 0\ntake n0 1\nend")

    def test_many_programs(self):
        chance = random.Random(7)
        for again in range(300):
            program = random_program(chance)
            check_program(program)
            self.same_both_ways(program, write(program))


if __name__ == "__main__":
    unittest.main()
