import unittest

from lookspare.errors import BadRow, NoLoop, NoPaper, NoProgram, SpareError

FOUR = (BadRow, NoProgram, NoPaper, NoLoop)


class Errors(unittest.TestCase):
    def test_fields(self):
        for value in (0, 1, 70, None):
            self.assertEqual(BadRow(value).at, value)
            self.assertEqual(NoProgram(value).line, value)
            self.assertEqual(NoPaper(value).at, value)

    def test_fields_are_each_error_s_own(self):
        first = NoProgram(1)
        second = NoProgram(2)
        self.assertEqual((first.line, second.line), (1, 2))

    def test_made_by_the_names_of_the_brackets(self):
        self.assertEqual(BadRow(at=3).at, 3)
        self.assertEqual(NoProgram(line=4).line, 4)
        self.assertEqual(NoPaper(at=5).at, 5)

    def test_no_loop_is_made_of_nothing(self):
        self.assertIsInstance(NoLoop(), NoLoop)

    def test_made_without_what_stands_in_the_brackets(self):
        for error in (BadRow, NoProgram, NoPaper):
            with self.assertRaises(TypeError):
                error()

    def test_what_they_stand_under(self):
        self.assertTrue(issubclass(SpareError, ValueError))
        for error in FOUR:
            self.assertTrue(issubclass(error, SpareError), error)
            self.assertTrue(issubclass(error, ValueError), error)

    def test_none_stands_under_another(self):
        for one in FOUR:
            for other in FOUR:
                self.assertEqual(issubclass(one, other), one == other, (one, other))

    def test_raised_and_taken(self):
        for made in (BadRow(0), NoProgram(None), NoPaper(None), NoLoop()):
            for taken in (type(made), SpareError, ValueError):
                with self.assertRaises(taken):
                    raise made


if __name__ == "__main__":
    unittest.main()
