import unittest

from helper import ZERO, ask
from lookspare.walks import Walk, run

END = ("end",)


def places(y, c, k=1):
    return (("get", 1, 0, y, c, k), ("put", 0, y, c, 1, k))


class Ends(unittest.TestCase):
    def ends(self, program, rows, taken, budget, told, frame):
        """Walked to its end and asked twice more: the end is no step, and what is behind it does nothing."""
        walk = Walk(program, rows, taken, budget)
        for step in range(told[2]):
            walk.step()
            self.assertIsNone(walk.told()[0])
            self.assertEqual(walk.told()[2], step + 1)
        for again in range(3):
            self.assertIsNone(walk.step())
            self.assertEqual(walk.told(), told)
            self.assertEqual(walk.frame(), frame)
        self.assertEqual(run(program, rows, taken, budget), told)

    def test_end(self):
        self.ends((0, 0, [END]), [], [], 5, (("end", 0), [], 0, []), (0, []))
        program = (2, 1, [("set", 1, None, 6, 2), END, ("tell", 1, 3), END])
        self.ends(program, [[4]], [], 5, (("end", 3), [6], 2, [[4]]), (3, [0, 6]))

    def test_end_goes_ahead_of_spent(self):
        self.ends((0, 0, [END]), [], [], 0, (("end", 0), [], 0, []), (0, []))
        program = (1, 0, [("take", 0, 1), ("take", 0, 2), END])
        self.ends(program, [], [3, 4], 2, (("end", 2), [], 2, []), (2, [4]))
        self.ends(program, [], [3, 4], 3, (("end", 2), [], 2, []), (2, [4]))
        self.ends(program, [], [3, 4], 1, (("spent", 1), [], 1, []), (1, [3]))

    def test_spent(self):
        lines = [("set", 0, 0, 1, 1), ("tell", 0, 2), ("test", None, None, 0, 0, 3), END]
        for budget in (0, 1, 2, 3, 4, 5, 6, 7, 399, 400):
            told = [n + 1 for n in range((budget + 1) // 3)]
            frame = (budget % 3, [(budget + 2) // 3])
            self.ends((1, 0, lines), [], [], budget, (("spent", budget % 3), told, budget, []), frame)

    def test_budget_of_none(self):
        for line in (("set", 0, None, 1, 0), ("sum", 0, 0, 0, 0), ("len", 0, 0, 0), ("take", 0, 0), ("tell", 0, 0),
                     ("test", None, None, 0, 0, 0), ("get", 0, 0, None, 0, 0), ("put", 0, None, 0, 0, 0)):
            self.ends((1, 1, [line]), [[5]], [6], 0, (("spent", 0), [], 0, [[5]]), (0, [0]))

    def test_places_at_their_edges(self):
        for count in (0, 1, 2, 5, 40):
            row = list(range(50, 50 + count))
            for place in (-1000, -2, -1, 0, 1, count - 1, count, count + 1, 1000):
                if place < 0:
                    end, steps = ("low", 1), 1
                elif place >= count:
                    end, steps = ("high", 1), 1
                else:
                    end, steps = ("end", 2), 2
                # The place by its name and number together, by the number alone, by the name alone.
                for value, y, c in ((0, 0, place), (7, None, place), (place, 0, 0), (3, 0, place - 3),
                                    (-3, 0, place + 3)):
                    if not -1000 <= c <= 1000:
                        continue
                    for line in places(y, c, 2):
                        program = (2, 1, [("set", 0, None, value, 1), line, END])
                        after = list(row)
                        numbers = [value, 0]
                        if end[0] == "end" and line[0] == "put":
                            after[place] = 0
                        elif end[0] == "end":
                            numbers = [value, row[place]]
                        self.ends(program, [row], [], 9, (end, [], steps, [after]), (end[1], numbers))

    def test_a_row_of_no_things(self):
        for line in places(None, 0):
            self.ends((2, 1, [line, END]), [[]], [], 9, (("high", 0), [], 0, [[]]), (0, [0, 0]))
        for line in places(None, -1):
            # Below its begin and beyond its end at once: low goes first.
            self.ends((2, 1, [line, END]), [[]], [], 9, (("low", 0), [], 0, [[]]), (0, [0, 0]))

    def test_far_places(self):
        for number, word in ((10 ** 18, "high"), (-(10 ** 18), "low")):
            for line in places(0, 0, 2):
                program = (2, 1, [("take", 0, 1), line, END])
                self.ends(program, [[1, 2]], [number], 9, ((word, 1), [], 1, [[1, 2]]), (1, [number, 0]))

    def test_the_row_of_the_line_is_looked_at(self):
        rows = [[1], [1, 2], [1, 2, 3]]
        for r in (0, 1, 2):
            for place in range(4):
                for line in (("get", 1, r, None, place, 1), ("put", r, None, place, 1, 1)):
                    wanted = ("end", 1) if place <= r else ("high", 0)
                    self.assertEqual(run((2, 3, [line, END]), rows, [], 9)[0], wanted)

    def test_looks_go_ahead_of_spent(self):
        for c, word in ((-1, "low"), (2, "high"), (0, "spent"), (1, "spent")):
            for line in places(None, c):
                self.ends((2, 1, [line, END]), [[8, 9]], [], 0, ((word, 0), [], 0, [[8, 9]]), (0, [0, 0]))
            for line in places(0, c, 2):
                program = (2, 1, [("take", 0, 1), line, END])
                self.ends(program, [[8, 9]], [], 1, ((word, 1), [], 1, [[8, 9]]), (1, [0, 0]))


class AsksAreNoSteps(unittest.TestCase):
    def frames(self, program, budget, wanted, rows=()):
        walk = Walk(program, [list(row) for row in rows], [], budget)
        told = [(walk.frame()[0], walk.told()[0], walk.told()[2])]
        while walk.told()[0] is None:
            walk.step()
            told.append((walk.frame()[0], walk.told()[0], walk.told()[2]))
        self.assertEqual(told, wanted)

    def test_an_ask_at_line_0(self):
        self.frames((1, 0, [ask(2, 1), END, ("tell", 0, 1)]), 9, [(0, None, 0), (1, None, 1), (1, ("end", 1), 1)])
        self.frames((1, 0, [("ask", ((ZERO, ZERO, -1),), 2, 1), END, END]), 9, [(0, None, 0), (1, ("end", 1), 0)])

    def test_asks_one_behind_another(self):
        lines = [ask(1, 5), ask(2, 5), ask(3, 5), ("tell", 0, 4), ask(6, 5), END, ask(7, 5), ("take", 0, 8), END]
        self.frames((1, 0, lines), 9, [(0, None, 0), (4, None, 1), (8, None, 2), (8, ("end", 8), 2)])
        self.frames((1, 0, [ask(at + 1, 0) for at in range(69)] + [END]), 0, [(0, None, 0), (69, ("end", 69), 0)])

    def test_a_walk_stands_at_an_ask_behind_a_step(self):
        # Going through the ask is for the next step, so no number changes and no step is counted till then.
        walk = Walk((1, 0, [("set", 0, None, 4, 1), ask(2, 3), ("tell", 0, 3), END]), [], [], 9)
        walk.step()
        self.assertEqual((walk.frame(), walk.told()), ((1, [4]), (None, [], 1, [])))
        walk.step()
        self.assertEqual((walk.frame(), walk.told()), ((3, [4]), (None, [4], 2, [])))

    def test_an_ask_ahead_of_an_end(self):
        self.frames((1, 0, [("tell", 0, 1), ask(2, 0), END]), 1, [(0, None, 0), (1, None, 1), (2, ("end", 2), 1)])

    def test_an_ask_ahead_of_a_place_line(self):
        for c, word in ((-1, "low"), (1, "high")):
            for line in places(None, c, 3):
                self.frames((2, 1, [("tell", 0, 1), ask(2, 3), line, END]), 1,
                            [(0, None, 0), (1, None, 1), (2, (word, 2), 1)], ([5],))
        for line in places(None, 0, 3):
            self.frames((2, 1, [("tell", 0, 1), ask(2, 3), line, END]), 9,
                        [(0, None, 0), (1, None, 1), (3, None, 2), (3, ("end", 3), 2)], ([5],))

    def test_an_ask_ahead_of_a_spent_budget(self):
        lines = [("set", 0, 0, 1, 1), ask(2, 3), ask(0, 3), END]
        self.frames((1, 0, lines), 0, [(0, None, 0), (0, ("spent", 0), 0)])
        self.frames((1, 0, lines), 1, [(0, None, 0), (1, None, 1), (0, ("spent", 0), 1)])
        self.frames((1, 0, lines), 2, [(0, None, 0), (1, None, 1), (1, None, 2), (0, ("spent", 0), 2)])
        self.frames((1, 0, [ask(1, 1), ("tell", 0, 0)]), 0, [(0, None, 0), (1, ("spent", 1), 0)])


if __name__ == "__main__":
    unittest.main()
