import random
import unittest

from helper import ZERO, random_program
from lookspare.walks import Walk, run

END = ("end",)
TOP = 10 ** 18


def one(line, values=(), rows=(), taken=()):
    """Does a line behind sets that give the names their values: told of it are where it goes on, values and rows.

    The line's ways are told from itself on: 1 is the line behind it, 2 the one behind that.
    """
    names = max(len(values), 4)
    count = len(values)
    lines = [("set", x, None, value, x + 1) for x, value in enumerate(values)]
    shifted = {"test": 2, "end": 0}.get(line[0], 1)
    lines.append(line[:len(line) - shifted] + tuple(way + count for way in line[len(line) - shifted:]))
    lines += [END, END]
    walk = Walk((names, len(rows), lines), [list(row) for row in rows], list(taken), 400)
    for step in range(count + 1):
        walk.step()
    end, told, steps, after = walk.told()
    if (end, steps) != (None, count + 1):
        raise AssertionError(f"{line!r} was not done: {walk.told()!r}")
    at, numbers = walk.frame()
    return at - count, numbers, told, after


class Words(unittest.TestCase):
    def test_set(self):
        self.assertEqual(one(("set", 0, 1, 5, 1), (3, 40, 7)), (1, [45, 40, 7, 0], [], []))
        self.assertEqual(one(("set", 1, 1, -50, 1), (3, 40, 7)), (1, [3, -10, 7, 0], [], []))
        self.assertEqual(one(("set", 2, None, 9, 2), (3, 40, 7)), (2, [3, 40, 9, 0], [], []))
        self.assertEqual(one(("set", 2, None, -1000, 1), (3, 40, 7)), (1, [3, 40, -1000, 0], [], []))
        self.assertEqual(one(("set", 0, 0, 0, 1), (3, 40, 7)), (1, [3, 40, 7, 0], [], []))

    def test_sum(self):
        self.assertEqual(one(("sum", 0, 1, 2, 1), (3, 40, 7)), (1, [47, 40, 7, 0], [], []))
        self.assertEqual(one(("sum", 3, 0, None, 2), (3, 40, 7)), (2, [3, 40, 7, 3], [], []))
        self.assertEqual(one(("sum", 1, 1, 1, 1), (3, 40, 7)), (1, [3, 80, 7, 0], [], []))
        self.assertEqual(one(("sum", 0, 0, 1, 1), (3, -40)), (1, [-37, -40, 0, 0], [], []))

    def test_len(self):
        rows = ([], [4], [5] * 40)
        for r, count in ((0, 0), (1, 1), (2, 40)):
            self.assertEqual(one(("len", 1, r, 1), (9, 9), rows), (1, [9, count, 0, 0], [], [[], [4], [5] * 40]))

    def test_take(self):
        self.assertEqual(one(("take", 1, 1), (9, 9), (), (7, 8)), (1, [9, 7, 0, 0], [], []))
        self.assertEqual(one(("take", 1, 2), (9, 9), (), (-TOP,)), (2, [9, -TOP, 0, 0], [], []))
        self.assertEqual(one(("take", 1, 1), (9, 9)), (1, [9, 0, 0, 0], [], []))

    def test_takes_one_behind_another(self):
        taken = list(range(100, 0, -1))
        program = (1, 0, [("take", 0, 1), ("tell", 0, 0)])
        told = run(program, [], taken, 210)
        self.assertEqual(told[1], taken + [0] * 5)
        self.assertEqual(run(program, [], [5, 0, -6], 10)[1], [5, 0, -6, 0, 0])

    def test_get(self):
        rows = ([1, 2, 3], [10, 20, 30, 40])
        for y, c, thing in ((0, 0, 10), (0, 3, 40), (3, 0, 40), (5, -5, 10), (5, -2, 40), (-7, 8, 20)):
            self.assertEqual(one(("get", 0, 1, 1, c, 1), (9, y), rows), (1, [thing, y, 0, 0], [], list(rows)))
        for c, thing in ((0, 1), (1, 2), (2, 3)):
            self.assertEqual(one(("get", 2, 0, None, c, 2), (9, 9), rows), (2, [9, 9, thing, 0], [], list(rows)))
        # The name of the place is the one that is given.
        self.assertEqual(one(("get", 1, 1, 1, 1, 1), (9, 2), rows), (1, [9, 40, 0, 0], [], list(rows)))

    def test_put(self):
        rows = ([1, 2, 3], [10, 20, 30, 40])
        for y, c, after in ((0, 0, [7, 20, 30, 40]), (0, 3, [10, 20, 30, 7]), (3, 0, [10, 20, 30, 7]),
                            (5, -5, [7, 20, 30, 40]), (-7, 8, [10, 7, 30, 40])):
            self.assertEqual(one(("put", 1, 1, c, 2, 1), (9, y, 7), rows), (1, [9, y, 7, 0], [], [[1, 2, 3], after]))
        self.assertEqual(one(("put", 0, None, 2, 0, 2), (9,), rows),
                         (2, [9, 0, 0, 0], [], [[1, 2, 9], [10, 20, 30, 40]]))

    def test_what_was_put_is_got(self):
        program = (3, 1, [("set", 0, None, 8, 1), ("put", 0, None, 1, 0, 2), ("set", 0, None, 9, 3),
                          ("get", 1, 0, None, 1, 4), ("tell", 1, 5), END])
        self.assertEqual(run(program, [[1, 2]], [], 9), (("end", 5), [8], 5, [[1, 8]]))

    def test_tell(self):
        self.assertEqual(one(("tell", 1, 1), (3, 40)), (1, [3, 40, 0, 0], [40], []))
        self.assertEqual(one(("tell", 0, 2), (3, 40)), (2, [3, 40, 0, 0], [3], []))

    def test_test_at_its_edge(self):
        for c in (-1000, -3, -1, 0, 1, 4, 1000):
            for difference, way in ((c - 1, 1), (c, 1), (c + 1, 2)):
                if -1000 <= difference <= 1000:
                    self.assertEqual(one(("test", 0, None, c, 1, 2), (difference,))[0], way)
                    self.assertEqual(one(("test", None, 0, c, 1, 2), (-difference,))[0], way)
                if abs(difference) <= 900:
                    values = (difference + 50, 50)
                    self.assertEqual(one(("test", 0, 1, c, 1, 2), values), (way, list(values) + [0, 0], [], []))
                    self.assertEqual(one(("test", 0, 1, c, 2, 1), values)[0], 3 - way)
        self.assertEqual(one(("test", None, None, 0, 1, 2))[0], 1)
        self.assertEqual(one(("test", None, None, -1, 1, 2))[0], 2)
        self.assertEqual(one(("test", 0, 0, 0, 1, 2), (77,))[0], 1)

    def test_great_numbers(self):
        program = (2, 1, [("take", 0, 1), ("sum", 0, 0, 0, 2), ("tell", 0, 3), ("put", 0, None, 0, 0, 4), END])
        for number in (TOP, -TOP):
            self.assertEqual(run(program, [[TOP]], [number], 9), (("end", 4), [2 * number], 4, [[2 * number]]))
        doubling = (1, 0, [("set", 0, None, 1, 1), ("sum", 0, 0, 0, 2), ("tell", 0, 1)])
        self.assertEqual(run(doubling, [], [], 400)[1][-1], 2 ** 199)


def asked(bounds, values=(), rows=()):
    """Whether an ask of these bounds goes by its first way; it may do nothing else."""
    count = len(values)
    lines = [("set", x, None, value, x + 1) for x, value in enumerate(values)]
    lines += [("ask", tuple(bounds), count + 1, count + 2), END, END]
    end, told, steps, after = run((len(values), len(rows), lines), [list(row) for row in rows], [], 400)
    if (told, steps, after) != ([], count, [list(row) for row in rows]):
        raise AssertionError((told, steps, after))
    return {("end", count + 1): True, ("end", count + 2): False}[end]


class Asks(unittest.TestCase):
    def test_one_bound_at_its_edge(self):
        x, y, r, s = ("name", 0, 0), ("name", 1, 0), ("len", 0), ("len", 1)
        rows = ([0] * 3, [0] * 10)
        values = (20, -5)
        worth = {ZERO: 0, x: 20, y: -5, r: 3, s: 10}
        for a in worth:
            for b in worth:
                least = worth[a] - worth[b]
                for c, so in ((least - 1, False), (least, True), (least + 1, True), (1000, True), (-1000, False)):
                    self.assertEqual(asked([(a, b, c)], values, rows), so, (a, b, c))

    def test_several_bounds(self):
        so, broken = (("name", 0, 0), ("len", 0), -1), (("len", 0), ("name", 0, 0), -1)
        for count in (1, 2, 3, 4):
            self.assertTrue(asked([so] * count, (2,), ([1, 2, 3],)))
            self.assertFalse(asked([broken] * count, (2,), ([1, 2, 3],)))
            for place in range(count):
                bounds = [so] * count
                bounds[place] = broken
                self.assertFalse(asked(bounds, (2,), ([1, 2, 3],)), bounds)
                bounds = [broken] * count
                bounds[place] = so
                self.assertEqual(asked(bounds, (2,), ([1, 2, 3],)), count == 1, bounds)

    def test_values_of_here(self):
        # The ask is come to again and again, each time with what the name has by then.
        program = (1, 0, [("ask", ((("name", 0, 0), ZERO, 2),), 1, 3), ("tell", 0, 2), ("set", 0, 0, 1, 0), END])
        self.assertEqual(run(program, [], [], 99), (("end", 3), [0, 1, 2], 6, []))


def slow_run(program, rows, taken, budget):
    """The same told once more, in another way than the program does."""
    names, count, lines = program
    rows, taken, values = [list(row) for row in rows], iter(list(taken)), {x: 0 for x in range(names)}
    values[None] = 0
    at, told, steps = 0, [], 0

    def worth(node):
        return {"zero": lambda: 0, "name": lambda: values[node[1]], "len": lambda: len(rows[node[1]])}[node[0]]()

    while True:
        word, *rest = lines[at]
        if word == "ask":
            bounds, k, m = rest
            at = k if not [1 for a, b, c in bounds if worth(a) > worth(b) + c] else m
            continue
        if word == "end":
            return ("end", at), told, steps, rows
        if word in ("get", "put"):
            r, y, c = rest[1:4] if word == "get" else rest[0:3]
            place = values[y] + c
            if place not in range(len(rows[r])):
                return ("low" if place < 0 else "high", at), told, steps, rows
        if steps == budget:
            return ("spent", at), told, steps, rows
        steps += 1
        if word == "get":
            values[rest[0]] = rows[r][place]
        elif word == "put":
            rows[r][place] = values[rest[3]]
        elif word == "set":
            values[rest[0]] = values[rest[1]] + rest[2]
        elif word == "sum":
            values[rest[0]] = values[rest[1]] + values[rest[2]]
        elif word == "len":
            values[rest[0]] = len(rows[rest[1]])
        elif word == "take":
            values[rest[0]] = next(taken, 0)
        elif word == "tell":
            told.append(values[rest[0]])
        at = rest[-2] if word == "test" and values[rest[0]] <= values[rest[1]] + rest[2] else rest[-1]


class ManyPrograms(unittest.TestCase):
    def test_against_a_walk_told_otherwise(self):
        chance = random.Random(3)
        met = {}
        for again in range(3000):
            program = random_program(chance)
            rows = [[chance.randint(-9, 9) for place in range(chance.choice((0, 1, 3, 12)))] for r in range(program[1])]
            taken = [chance.randint(-3, 12) for number in range(chance.randint(0, 6))]
            budget = chance.choice((0, 1, 2, 5, 20, 60))
            told = run(program, rows, taken, budget)
            self.assertEqual(told, slow_run(program, rows, taken, budget), (program, rows, taken, budget))
            met[told[0][0]] = met.get(told[0][0], 0) + 1
        self.assertEqual(sorted(met), ["end", "high", "low", "spent"])
        self.assertGreater(min(met.values()), 100, met)


if __name__ == "__main__":
    unittest.main()
