import unittest

from helper import FAR, ask, told_of


def of(names, rows, count):
    return told_of((names, rows, [("end",)] * count))


class Counts(unittest.TestCase):
    def test_names(self):
        for names in range(7):
            self.assertEqual(of(names, 1, 1), "right", names)
        for names in (-FAR, -2, -1, 7, 8, FAR):
            self.assertIsNone(of(names, 1, 1), names)

    def test_rows(self):
        for rows in range(4):
            self.assertEqual(of(1, rows, 1), "right", rows)
        for rows in (-FAR, -2, -1, 4, 5, FAR):
            self.assertIsNone(of(1, rows, 1), rows)

    def test_lines(self):
        for count in range(1, 71):
            self.assertEqual(of(1, 1, count), "right", count)
        for count in (0, 71, 72, 200):
            self.assertIsNone(of(1, 1, count), count)

    def test_the_least_and_the_greatest_program(self):
        self.assertEqual(of(0, 0, 1), "right")
        self.assertEqual(of(6, 3, 70), "right")

    def test_counts_wrong_together(self):
        self.assertIsNone(of(7, 4, 71))
        self.assertIsNone(of(-1, -1, 0))
        self.assertIsNone(of(7, -1, 1))

    def test_counts_go_ahead_of_lines(self):
        wrong = [("tell", FAR, -1)]
        self.assertEqual(told_of((6, 3, wrong)), 0)
        self.assertIsNone(told_of((7, 3, wrong)))
        self.assertIsNone(told_of((-1, 3, wrong)))
        self.assertIsNone(told_of((6, 4, wrong)))
        self.assertIsNone(told_of((6, -1, wrong)))
        self.assertIsNone(told_of((6, 3, wrong * 71)))
        self.assertIsNone(told_of((6, 3, [("end",)] * 70 + wrong)))

    def test_counts_go_ahead_of_rings(self):
        ring = [ask(0, 0)]
        self.assertEqual(told_of((6, 3, ring)), 0)
        self.assertIsNone(told_of((7, 3, ring)))
        self.assertIsNone(told_of((6, 4, ring)))
        self.assertIsNone(told_of((6, 3, ring + [("end",)] * 70)))


if __name__ == "__main__":
    unittest.main()
