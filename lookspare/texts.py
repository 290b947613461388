"""Programs as texts: a row for the counts, then a row for each line."""

from lookspare.bounds import ZERO
from lookspare.errors import BadRow
from lookspare.lines import is_ask, kinds_behind, parts
from lookspare.programs import MOST_BOUNDS, check_program

FIGURES = "0123456789"
MOST_FIGURES = 4
NOUGHT = "-"
# What stands ahead of the figures of each part of a line, and of each node.
MARKS = {"name": "n", "value": "n", "row": "r", "number": "", "way": "", "len": "r"}


def write(program):
    rows = [counts_row(program)] + [line_row(line) for line in program[2]]
    return "\n".join(rows)


def read(text):
    rows = text.split("\n")
    counts = counts_in(rows[0])
    lines = [line_in(row, at) for at, row in enumerate(rows[1:], start=1)]
    program = (counts[0], counts[1], lines)
    check_program(program)
    return program


def counts_row(program):
    return " ".join(["names", str(program[0]), "rows", str(program[1])])


def line_row(line):
    if is_ask(line):
        return ask_row(line)
    return " ".join([line[0]] + [part_word(kind, part) for kind, part in parts(line)])


def ask_row(line):
    words = ["ask", str(line[2]), str(line[3])]
    for bound in line[1]:
        words.extend([node_word(bound[0]), node_word(bound[1]), str(bound[2])])
    return " ".join(words)


def part_word(kind, part):
    return NOUGHT if part is None else MARKS[kind] + str(part)


def node_word(node):
    return NOUGHT if node == ZERO else MARKS[node[0]] + str(node[1])


def counts_in(row):
    words = row.split(" ")
    if len(words) != 4 or words[0] != "names" or words[2] != "rows":
        raise BadRow(0)
    return (count_in(words[1], 0), count_in(words[3], 0))


def line_in(row, at):
    words = row.split(" ")
    if words[0] == "ask":
        return ask_in(words, at)
    kinds = kinds_behind(words[0])
    if kinds is None or len(words) != 1 + len(kinds):
        raise BadRow(at)
    return tuple([words[0]] + [part_in(kind, word, at) for kind, word in zip(kinds, words[1:])])


def ask_in(words, at):
    # The word and the two lines are as many as the words of a bound, so all goes by threes.
    if len(words) % 3 != 0 or not 1 <= len(words) // 3 - 1 <= MOST_BOUNDS:
        raise BadRow(at)
    bounds = [bound_in(words[first:first + 3], at) for first in range(3, len(words), 3)]
    return ("ask", tuple(bounds), count_in(words[1], at), count_in(words[2], at))


def bound_in(words, at):
    return (node_in(words[0], at), node_in(words[1], at), number_in(words[2], at))


def node_in(word, at):
    if word == NOUGHT:
        return ZERO
    if word.startswith(MARKS["name"]):
        return ("name", marked_in("name", word, at), 0)
    return ("len", marked_in("len", word, at))


def part_in(kind, word, at):
    if kind == "number":
        return number_in(word, at)
    if kind == "value" and word == NOUGHT:
        return None
    return marked_in(kind, word, at)


def marked_in(kind, word, at):
    mark = MARKS[kind]
    if not word.startswith(mark):
        raise BadRow(at)
    return count_in(word[len(mark):], at)


def number_in(word, at):
    if word == "-0":
        raise BadRow(at)
    return -count_in(word[1:], at) if word.startswith("-") else count_in(word, at)


def count_in(word, at):
    if not are_figures(word) or (word[0] == "0" and word != "0"):
        raise BadRow(at)
    return int(word)


def are_figures(word):
    # Python's own test of digits, and int, let more signs by than these ten.
    return 1 <= len(word) <= MOST_FIGURES and all([sign in FIGURES for sign in word])
