import copy
import random
import unittest

from helper import COUNTING, END, FAR, LENGTH, ZERO, random_claims, random_program, winding_program, x
from lookspare import errors
from lookspare.checker import check_look
from lookspare.claims import kept, known_at
from lookspare.cuts import come_to
from lookspare.guesses import guesses
from lookspare.programs import looks
from lookspare.stands import verdict
from lookspare.trails import needs

# Line 1 is a cut; line 3 reads at name 0, which is below the length there. Line 6 is not come to.
READING = (2, 1, COUNTING[2] + [("put", 0, None, 0, 1, 1)])
CLAIMS = [(1, (ZERO, x(0), 0)), (1, (x(0), LENGTH, 0))]
LOW, LOW_GROUND = (3, "low"), ("road", [(ZERO, x(0), 0)])
HIGH, HIGH_GROUND = (3, "high"), ("road", [(x(0), x(1, 1), -1), (x(1, 1), LENGTH, 0)])
# No run comes to line 1, nor to line 2, a put.
NOWHERE = (1, 1, [("test", None, None, -1, 1, 3), ("take", 0, 2), ("put", 0, 0, 5, 0, 3), END])
RING = ("ring", [(ZERO, ZERO, -1)])


class CheckLook(unittest.TestCase):
    def told(self, program, claims, look, ground):
        before = copy.deepcopy((program, claims, look, ground))
        try:
            given = check_look(program, claims, look, ground)
        except errors.NoPaper as refusal:
            self.assertIsNone(refusal.at)
            given = "refused"
        else:
            self.assertIsNone(given)
            given = "by"
        self.assertEqual((program, claims, look, ground), before)
        return given

    def assert_let_by(self, program, claims, look, ground):
        self.assertEqual(self.told(program, claims, look, ground), "by", (program, claims, look, ground))

    def assert_refused(self, program, claims, look, ground):
        self.assertEqual(self.told(program, claims, look, ground), "refused", (program, claims, look, ground))

    def test_shown_by_a_road(self):
        self.assert_let_by(READING, CLAIMS, LOW, LOW_GROUND)
        self.assert_let_by(READING, CLAIMS, HIGH, HIGH_GROUND)
        # By the trail's facts alone.
        self.assert_let_by(READING, [], HIGH, HIGH_GROUND)
        # Of no facts: a place of a number alone is never below the begin.
        self.assert_let_by((1, 1, [("get", 0, 0, None, 7, 1), END]), [], (0, "low"), ("road", []))
        self.assert_let_by((1, 1, [("get", 0, 0, None, 0, 1), END]), [], (0, "low"), ("road", []))
        self.assert_refused((1, 1, [("get", 0, 0, None, -1, 1), END]), [], (0, "low"), ("road", []))
        # By a look that was passed ahead of it, in the versions of there.
        twice = (2, 1, [("get", 1, 0, 0, 3, 1), ("set", 0, 0, 1, 2), ("put", 0, 0, 2, 1, 3), END])
        self.assert_let_by(twice, [], (2, "low"), ("road", [(ZERO, x(0), 3), (x(0), x(0, 1), -1)]))
        self.assert_let_by(twice, [], (2, "high"), ("road", [(x(0, 1), x(0), 1), (x(0), LENGTH, -4)]))
        self.assert_refused(twice, [], (2, "low"), ("road", [(ZERO, x(0), 3)]))

    def test_shown_by_a_ring(self):
        for word in ("low", "high"):
            self.assert_let_by(NOWHERE, [], (2, word), RING)
            self.assert_refused(NOWHERE, [], (2, word), ("road", RING[1]))
            self.assert_refused(NOWHERE, [], (2, word), ("ring", []))
        # By claims that are not so at once.
        apart = [(1, (x(1), ZERO, -1)), (1, (ZERO, x(1), 0))]
        ring = [(x(1), ZERO, -1), (ZERO, x(1), 0)]
        for look in (LOW, HIGH):
            self.assert_let_by(READING, apart, look, ("ring", ring))
            self.assert_let_by(READING, apart, look, ("ring", list(reversed(ring))))
            self.assert_refused(READING, apart[:1], look, ("ring", ring))
            self.assert_refused(READING, [(1, (x(1), ZERO, 0)), apart[1]], look,
                                ("ring", [(x(1), ZERO, 0), ring[1]]))

    def test_a_ground_that_does_not_add_up(self):
        # For the other look; of facts not known; with another c; not end to end; from or to another node; none.
        self.assert_refused(READING, CLAIMS, LOW, HIGH_GROUND)
        self.assert_refused(READING, CLAIMS, HIGH, LOW_GROUND)
        self.assert_refused(READING, [], LOW, LOW_GROUND)
        self.assert_refused(READING, CLAIMS[1:], LOW, LOW_GROUND)
        self.assert_refused(READING, CLAIMS, LOW, ("road", [(ZERO, x(0), -1)]))
        facts = HIGH_GROUND[1]
        for road in ([], facts[:1], facts[1:], list(reversed(facts)), facts + facts[1:], facts[:1] + facts,
                     [(x(0), LENGTH, 0)], [(x(0), x(1, 1), -2), facts[1]], [(ZERO, LENGTH, 0)]):
            self.assert_refused(READING, CLAIMS, HIGH, ("road", road))
        self.assert_refused(READING, CLAIMS, HIGH, ("ring", facts))
        self.assert_refused(READING, CLAIMS, LOW, ("ring", LOW_GROUND[1]))

    def test_a_stand_is_no_ground(self):
        told = verdict(known_at(READING, [], 3), needs(READING, LOW))
        self.assertEqual(told[0], "stand")
        self.assert_refused(READING, [], LOW, told)
        self.assert_refused((1, 1, [("get", 0, 0, None, 7, 1), END]), [], (0, "low"), ("stand", []))

    def test_a_sum_at_the_edge(self):
        for c, told in ((-3, "by"), (-2, "by"), (-1, "refused"), (0, "refused")):
            # At place name 0 plus 1 the look needs that the name is at least 2 below the length.
            program = (1, 1, [("put", 0, 0, 1, 0, 1), END])
            claims = [(0, (x(0), LENGTH, c))]
            ground = ("road", [(x(0), LENGTH, c)])
            self.assertEqual(self.told(program, claims, (0, "high"), ground), told, c)
        for c, told in ((0, "by"), (1, "by"), (2, "refused")):
            program = (1, 1, [("put", 0, 0, 1, 0, 1), END])
            claims = [(0, (ZERO, x(0), c))]
            self.assertEqual(self.told(program, claims, (0, "low"), ("road", [(ZERO, x(0), c)])), told, c)

    def test_claims_at_other_lines_count_for_nothing(self):
        for line in (0, 2, 3, 4, 5, 6, 99, -1):
            self.assert_refused(READING, [(line, (ZERO, x(0), 0))], LOW, LOW_GROUND)
        # Whether claims hold is not asked here.
        self.assert_let_by(READING, [(1, (ZERO, x(0), -9))], LOW, ("road", [(ZERO, x(0), -9)]))

    def test_what_the_begin_knows_is_not_known(self):
        program = (1, 1, [("get", 0, 0, 0, 0, 0)])
        self.assert_refused(program, [], (0, "low"), LOW_GROUND)
        self.assert_let_by(program, [(0, (ZERO, x(0), 0))], (0, "low"), LOW_GROUND)

    def test_a_line_that_is_not_come_to(self):
        self.assertNotIn(6, come_to(READING))
        for word in ("low", "high"):
            for ground in (("road", []), ("road", [(ZERO, LENGTH, 0)]), LOW_GROUND, RING, ("ring", [])):
                self.assert_refused(READING, CLAIMS, (6, word), ground)
                self.assert_refused(READING, [(6, (ZERO, ZERO, -1))], (6, word), ground)

    def test_a_line_that_is_no_place_line(self):
        for line in (0, 1, 2, 4, 5):
            for word in ("low", "high"):
                for ground in (("road", []), LOW_GROUND, HIGH_GROUND, RING):
                    self.assert_refused(READING, CLAIMS + [(1, (ZERO, ZERO, -1))], (line, word), ground)

    def test_a_line_that_is_not_there(self):
        for line in (7, 8, 70, -1, -4, -3, FAR, -FAR):
            for word in ("low", "high"):
                for ground in (("road", []), LOW_GROUND, HIGH_GROUND, RING):
                    self.assert_refused(READING, CLAIMS + [(1, (ZERO, ZERO, -1))], (line, word), ground)

    def test_another_word(self):
        for word in ("", "Low", "beyond", "lowhigh", "end", "middle"):
            for ground in (("road", []), LOW_GROUND, HIGH_GROUND):
                self.assert_refused(READING, CLAIMS, (3, word), ground)
            self.assert_refused(NOWHERE, [], (2, word), RING)

    def test_the_refusal(self):
        with self.assertRaises(errors.NoPaper) as caught:
            check_look(READING, CLAIMS, (99, "low"), LOW_GROUND)
        self.assertIsInstance(caught.exception, errors.SpareError)
        self.assertIsInstance(caught.exception, ValueError)
        for other in (errors.BadRow, errors.NoProgram, errors.NoLoop):
            self.assertNotIsInstance(caught.exception, other)
        self.assertIsNone(caught.exception.at)

    def test_of_programs_made(self):
        chance = random.Random(37)
        told = {"road": 0, "ring": 0, "stand": 0}
        for count in range(400):
            program = winding_program(chance) if count % 2 else random_program(chance)
            claims = kept(program, guesses(program)) + random_claims(chance, program, 3)
            there = come_to(program)
            for look in looks(program):
                if look[0] not in there:
                    self.assert_refused(program, claims, look, ("road", []))
                    continue
                facts = known_at(program, claims, look[0])
                ground = verdict(facts, needs(program, look))
                told[ground[0]] += 1
                if ground[0] == "stand":
                    self.assert_refused(program, claims, look, ("road", facts))
                    continue
                self.assert_let_by(program, claims, look, ground)
                if ground[0] == "road":
                    self.assert_refused(program, claims, look, ("ring", ground[1]))
                self.assert_refused(program, claims, look, (ground[0], ground[1] + [(x(9), x(8), 0)]))
        self.assertGreater(min(told.values()), 50)

    def test_by_turns_and_behind_a_change(self):
        other = copy.deepcopy(READING)
        other[2][3] = ("get", 1, 0, 0, -1, 4)
        claims = list(CLAIMS)
        for again in range(2):
            self.assert_let_by(READING, claims, LOW, LOW_GROUND)
            self.assert_refused(other, claims, LOW, LOW_GROUND)
        other[2][3] = ("get", 1, 0, 0, 0, 4)
        self.assert_let_by(other, claims, LOW, LOW_GROUND)
        claims[0] = (1, (ZERO, x(0), 1))
        self.assert_refused(other, claims, LOW, LOW_GROUND)


if __name__ == "__main__":
    unittest.main()
