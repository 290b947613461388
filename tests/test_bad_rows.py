import random
import re
import unittest

from helper import random_program
from lookspare.errors import BadRow, NoProgram
from lookspare.programs import check_program
from lookspare.texts import read, write

FIRST = "names 6 rows 3"
RIGHT = "names 2 rows 1\ntake n0 1\nget n1 r0 n0 0 2\ntell n1 3\nend"
RIGHT_PROGRAM = (2, 1, [("take", 0, 1), ("get", 1, 0, 0, 0, 2), ("tell", 1, 3), ("end",)])

# A right row of each word, its names, rows and lines there in a program of 6 names, 3 rows and 10 lines.
SOUND = (
    "set n0 n1 5 2", "set n0 - -5 2", "sum n0 n1 n2 3", "sum n0 n1 - 3", "len n0 r1 2", "take n0 1",
    "get n0 r1 n2 3 4", "get n0 r1 - -3 4", "put r0 n1 2 n3 4", "put r0 - -2 n3 4", "tell n0 1",
    "test n0 n1 2 3 4", "test - - -2 3 4", "ask 9 8 n0 r1 2", "ask 9 8 - n0 -2 r0 - 3",
    "ask 9 8 - - 0 n1 n2 -3 r0 r1 4 n5 - 0", "end",
)

# The form of a row, told once more and in another way than the program does.
COUNT = "(?:0|[1-9][0-9]{0,3})"
NUMBER = "(?:0|-?[1-9][0-9]{0,3})"
NAME, ROW = "n" + COUNT, "r" + COUNT
VALUE, NODE = f"(?:-|{NAME})", f"(?:-|{NAME}|{ROW})"
FORMS = [re.compile(" ".join(words)) for words in (
    ("set", NAME, VALUE, NUMBER, COUNT), ("sum", NAME, NAME, VALUE, COUNT), ("len", NAME, ROW, COUNT),
    ("take", NAME, COUNT), ("get", NAME, ROW, VALUE, NUMBER, COUNT), ("put", ROW, VALUE, NUMBER, NAME, COUNT),
    ("tell", NAME, COUNT), ("test", VALUE, VALUE, NUMBER, COUNT, COUNT),
    ("ask", COUNT, f"{COUNT}(?: {NODE} {NODE} {NUMBER}){{1,4}}"), ("end",),
)]
FIRST_FORM = re.compile(f"names {COUNT} rows {COUNT}")


def told_of(text):
    """What read tells: ("right", program), ("bad", at) or ("no", line)."""
    try:
        return ("right", read(text))
    except BadRow as refusal:
        return ("bad", refusal.at)
    except NoProgram as refusal:
        return ("no", refusal.line)


def first_bad(text):
    for at, row in enumerate(text.split("\n")):
        forms = FORMS if at else [FIRST_FORM]
        if not [form for form in forms if form.fullmatch(row)]:
            return at
    return None


class BadRows(unittest.TestCase):
    def told(self, text, wanted):
        self.assertEqual(told_of(text), wanted, text)
        self.assertEqual(told_of(RIGHT), ("right", RIGHT_PROGRAM))

    def refused(self, row):
        """As the first line, as a later one and as the last one; also where a later row is wrong, too."""
        self.told("\n".join([FIRST, row] + ["end"] * 9), ("bad", 1))
        self.told("\n".join([FIRST] + ["end"] * 4 + [row] + ["end"] * 5), ("bad", 5))
        self.told("\n".join([FIRST] + ["end"] * 9 + [row]), ("bad", 10))
        self.told("\n".join([FIRST, "end", row, "end", "end of all", row]), ("bad", 2))

    def test_sound_rows(self):
        for row in SOUND:
            self.assertEqual(told_of("\n".join([FIRST, row] + ["end"] * 9))[0], "right", row)

    def test_the_first_row(self):
        rows = (
            "", " ", "names", "names 6", "names 6 rows", "6 3", "end", "take n0 0", "rows 3 names 6", "names 6 names 3",
            "name 6 rows 3", "names 6 row 3", "Names 6 rows 3", "names 6 ROWS 3", "names rows 6 3", "rows 6 rows 3",
            "names 6 rows 3 lines", "names 6 rows 3 1", "names 6 rows 3 -", "names n6 rows 3", "names 6 rows r3",
            "names - rows 3", "names 6 rows -", "names six rows 3", "names 6 rows three", "names 6a rows 3",
            "names 6 rows 3a", "names 6. rows 3", "names 6 rows 3_0", "names 1_0 rows 3", "names 12345 rows 3",
            "names 6 rows 12345", "names 00000 rows 3", "names -6 rows 3", "names 6 rows -3", "names -0 rows 3",
            "names 6 rows -0", "names +6 rows 3", "names 6 rows +3", "names 06 rows 3", "names 6 rows 03",
            "names 00 rows 3", "names 6 rows 00", " names 6 rows 3", "names 6 rows 3 ", "names  6 rows 3",
            "names 6  rows 3", "names 6 rows  3", "names6 rows 3", "names 6 rows3", "names 6, rows 3", "names=6 rows=3",
            "names  rows 3", "names 6 rows ",
        )
        for row in rows:
            self.told(row, ("bad", 0))
            self.told(row + "\nend", ("bad", 0))
            self.told(row + "\nend at last\n", ("bad", 0))

    def test_the_empty_text(self):
        self.told("", ("bad", 0))
        self.told("\n", ("bad", 0))
        self.told("\n" + RIGHT, ("bad", 0))

    def test_unknown_words(self):
        for row in ("halt", "ends", "en", "END", "End", "goto 0", "sett n0 - 0 0", "Set n0 - 0 0", "n0", "-", "0",
                    "names 6 rows 3", "bounds 0 0", "name", "#", "zero"):
            self.refused(row)

    def test_empty_rows(self):
        self.refused("")
        self.refused(" ")
        self.told(RIGHT + "\n", ("bad", 5))
        self.told(RIGHT + "\n\n", ("bad", 5))
        self.told(FIRST + "\n", ("bad", 1))

    def test_a_word_less_or_more(self):
        for row in SOUND:
            words = row.split(" ")
            for at in range(len(words)):
                # An ask of several bounds stays one where a whole bound is left out, not where one word is.
                self.refused(" ".join(words[:at] + words[at + 1:]))
            for more in ("0", "n0", "r0", "-", "end"):
                for at in range(len(words) + 1):
                    self.refused(" ".join(words[:at] + [more] + words[at:]))

    def test_blanks(self):
        for row in SOUND:
            self.refused(" " + row)
            self.refused(row + " ")
            for at in [at for at, sign in enumerate(row) if sign == " "]:
                self.refused(row[:at] + " " + row[at:])
                self.refused(row[:at] + row[at + 1:])
                self.refused(row[:at] + "," + row[at + 1:])

    def test_marks(self):
        for row in SOUND:
            words = row.split(" ")
            for at, word in enumerate(words):
                if at and word[0] in "nr":
                    for other in (word[1:], "x" + word[1:], word[0] * 2 + word[1:], word[0].upper() + word[1:],
                                  word[1:] + word[0], word[0], "-" + word, word + "-", word[0] + "-" + word[1:],
                                  word[0] + " " + word[1:]):
                        self.refused(" ".join(words[:at] + [other] + words[at + 1:]))
                    # A name where a row must stand, and a row where a name must; a node may be either.
                    if words[0] != "ask":
                        other = {"n": "r", "r": "n"}[word[0]] + word[1:]
                        self.refused(" ".join(words[:at] + [other] + words[at + 1:]))
                elif at and word != "-":
                    for mark in "nrx":
                        self.refused(" ".join(words[:at] + [mark + word] + words[at + 1:]))

    def test_figures(self):
        for row in SOUND:
            words = row.split(" ")
            for at, word in enumerate(words):
                if at and word != "-":
                    mark = word[0] if word[0] in "nr" else ""
                    for figures in ("00", "01", "007", "-0", "-00", "-01", "+1", "+0", "12345", "10000", "00000",
                                    "-12345", "1x", "x", "1_0", "1.", "1e1", "0x1", "--1", "1-", "", "!", "~", "'1'",
                                    "/", ":", " 1", "1 "):
                        self.refused(" ".join(words[:at] + [mark + figures] + words[at + 1:]))

    def test_every_sign_that_is_no_figure(self):
        for sign in [chr(code) for code in range(ord(" "), ord("~") + 1) if not chr(code).isdigit()]:
            for word in (sign, "1" + sign, sign + "1", "1" + sign + "1"):
                self.refused("take n0 " + word)
                self.refused(f"take n{word} 0")
                self.refused(f"len n0 r{word} 0")
                self.told(f"names {word} rows 3\nend", ("bad", 0))
                # Of these a written number alone may have a sign ahead, and but one.
                if word != "-1":
                    self.refused(f"set n0 - {word} 0")
                    self.refused(f"ask 9 9 - - {word}")

    def test_a_minus_ahead_of_what_is_no_written_number(self):
        for row in ("set n-1 - 0 0", "set n0 n-1 0 0", "set n0 - 0 -1", "set -n0 - 0 0", "set n0 -n1 0 0",
                    "len n0 r-1 0", "len n0 -r1 0", "len n0 r0 -1", "take n0 -1", "tell n0 -1", "get n0 r-0 - 0 0",
                    "put r0 - 0 n-1 0", "put r0 - 0 n0 -1", "test - - 0 -1 0", "test - - 0 0 -1", "ask -1 0 - - 0",
                    "ask 0 -1 - - 0", "ask 0 0 n-1 - 0", "ask 0 0 - r-1 0", "ask 1 1 -n1 - 0", "sum n0 n0 -n0 0"):
            self.refused(row)

    def test_nought_where_a_name_or_row_must_stand(self):
        for row in ("set - - 0 0", "set - n0 0 0", "sum - n0 n1 0", "sum n0 - n1 0", "len - r0 0", "len n0 - 0",
                    "take - 0", "get - r0 n0 0 0", "get n0 - n0 0 0", "put - n0 0 n0 0", "put r0 n0 0 - 0", "tell - 0",
                    "set n0 - - 0", "set n0 - 0 -", "take n0 -", "test - - - 0 0", "test - - 0 - 0", "test - - 0 0 -",
                    "ask - 0 - - 0", "ask 0 - - - 0", "ask 0 0 - - -"):
            self.refused(row)

    def test_bounds_of_an_ask(self):
        bound = " n0 r0 1"
        for count in (0, 5, 6, 20):
            self.refused("ask 9 8" + bound * count)
        for count in (1, 2, 3, 4):
            self.assertEqual(told_of("\n".join([FIRST, "ask 9 8" + bound * count] + ["end"] * 9))[0], "right")
            self.refused("ask 9 8" + bound * (count - 1) + " n0 r0")
            self.refused("ask 9 8" + bound * (count - 1) + " n0 1")
            self.refused("ask 9 8" + bound * count + " n0")
            self.refused("ask 9 8" + " n0 r0" + bound * count)
            for node in ("zero", "n0 0", "n0,0", "n0.0", "0", "1", "len0", "z", "z0", "rn0", "nr0", "--", "", "n", "r",
                         "name0", "l0", "(n0)"):
                self.refused("ask 9 8" + bound * (count - 1) + f" {node} r0 1")
                self.refused("ask 9 8" + bound * (count - 1) + f" n0 {node} 1")

    def test_the_first_of_several(self):
        rows = [FIRST] + ["end"] * 20
        for at in range(20, -1, -1):
            rows[at] = rows[at] + "!"
            self.told("\n".join(rows), ("bad", at))

    def test_a_bad_row_goes_ahead_of_no_program(self):
        self.told("names 7 rows 3\nend\nend now", ("bad", 2))
        self.told("names 9999 rows 9999\nhalt", ("bad", 1))
        self.told("names 6 rows 4\nend\n", ("bad", 2))
        self.told("names 6 rows 3\n" + "end\n" * 70 + "ende", ("bad", 71))
        self.told("names 6 rows 3\n" + "end\n" * 200 + "ende", ("bad", 201))
        self.told("names 1 rows 0\ntell n1 0\nend\ntell n0 00", ("bad", 3))
        self.told("names 1 rows 0\ntell n0 9\nhalt", ("bad", 2))
        self.told("names 1 rows 0\nset n0 - 1001 0\nset n0 - 10000 0", ("bad", 2))
        self.told("names 0 rows 0\nask 0 0 - - 0\nend\n ", ("bad", 3))

    def test_what_the_form_lets_by_is_refused_as_a_program(self):
        for text, line in (
            ("names 7 rows 3\nend", None), ("names 9999 rows 0\nend", None), ("names 6 rows 4\nend", None),
            ("names 0 rows 9999\nend", None), ("names 0 rows 0", None), ("names 6 rows 3", None),
            ("names 0 rows 0" + "\nend" * 71, None), ("names 0 rows 0" + "\nend" * 300, None),
            ("names 7 rows 0\ntell n9 99", None), ("names 1 rows 0\nend\ntell n1 0", 1),
            ("names 1 rows 0\ntell n9999 0", 0), ("names 1 rows 1\nend\nend\nlen n0 r1 0", 2),
            ("names 1 rows 1\nput r9999 - 0 n0 0", 0), ("names 1 rows 0\ntake n0 1", 0),
            ("names 1 rows 0\ntake n0 9999", 0),
            ("names 1 rows 0\nset n0 - 1001 0", 0), ("names 1 rows 0\nset n0 - -1001 0", 0),
            ("names 1 rows 0\nend\ntest - - 9999 0 0", 1), ("names 1 rows 0\nend\nset n0 - -9999 0", 1),
            ("names 1 rows 0\nend\nask 0 0 - - 1001", 1), ("names 1 rows 0\nend\nask 0 0 - - -9999", 1),
            ("names 1 rows 0\nend\nask 0 0 n1 - 0", 1), ("names 1 rows 0\nend\nask 0 0 - r0 0", 1),
            ("names 0 rows 0\nend\nask 2 0 - - 0\nask 0 1 - - 0", 1), ("names 0 rows 0\nask 0 0 - - 0", 0),
            ("names 0 rows 0\nask 0 0 - - 0\nask 2 2 - - 0", 1), ("names 1 rows 0\ntell n2 0\ntell n1 0", 0),
        ):
            self.told(text, ("no", line))

    def test_four_figures_are_a_written_number_still(self):
        self.told("names 1 rows 0\nset n0 - 1000 0", ("right", (1, 0, [("set", 0, None, 1000, 0)])))
        self.told("names 1 rows 0\nset n0 - -1000 0", ("right", (1, 0, [("set", 0, None, -1000, 0)])))


class ManyTexts(unittest.TestCase):
    def test_texts_with_a_sign_changed(self):
        chance = random.Random(11)
        signs = "0123456789 -nr\nax+~"
        met = {"right": 0, "bad": 0, "no": 0}
        for again in range(4000):
            text = write(random_program(chance))
            for change in range(chance.choice((1, 1, 1, 2))):
                at = chance.randrange(len(text) + 1)
                text = text[:at] + chance.choice(("", chance.choice(signs))) + text[at + chance.randrange(2):]
            told = told_of(text)
            met[told[0]] += 1
            bad = first_bad(text)
            if bad is not None:
                self.assertEqual(told, ("bad", bad), text)
            elif told[0] == "right":
                self.assertIsNone(check_program(told[1]), text)
                self.assertEqual(write(told[1]), text)
            else:
                self.assertEqual(told[0], "no", text)
        self.assertGreater(min(met.values()), 100, met)


if __name__ == "__main__":
    unittest.main()
