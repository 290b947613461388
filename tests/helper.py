"""What several files of tests share."""

import copy

from lookspare.errors import NoProgram
from lookspare.programs import check_program

ZERO = ("zero",)
FAR = 10 ** 30


def ask(k, m):
    return ("ask", ((ZERO, ZERO, 0),), k, m)


def told_of(program):
    """What check_program tells: "right", or the `line` of its refusal; the program must stay as it was."""
    before = copy.deepcopy(program)
    try:
        told = check_program(program)
    except NoProgram as refusal:
        told = refusal.line
    else:
        if told is not None:
            raise AssertionError(f"check_program gave {told!r} for {program!r}")
        told = "right"
    if program != before:
        raise AssertionError(f"{before!r} was changed into {program!r}")
    return told
