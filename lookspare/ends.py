"""The ends of trails, and the begin, with the facts known there."""

from lookspare.bounds import ZERO, bound_now
from lookspare.trails import alike, facts_of, first_versions, trail, trail_by, versions


# The facts known by some claims, and each name's version. The cut is that of the trail, None at the begin.
class TrailEnd:
    def __init__(self, cut, facts, now):
        self.cut = cut
        self.facts = facts
        self.now = now

    # What a claim at the line where the trail ends says of the names as they are then.
    def bound_here(self, bound):
        return bound_now(bound, self.now)


def end_by(program, claims, way):
    if way is None:
        return TrailEnd(None, begin_facts(program), first_versions(program))
    return end_of(program, claims, trail_by(program, way))


def end_at(program, claims, line):
    return end_of(program, claims, trail(program, line))


def end_of(program, claims, gone):
    facts = bounds_at(claims, gone[0]) + facts_of(program, gone[1])
    return TrailEnd(gone[0], facts, versions(program, gone[1]))


def bounds_at(claims, line):
    return [bound for at, bound in claims if at == line]


def begin_facts(program):
    facts = []
    for name in range(program[0]):
        facts.extend(alike(("name", name, 0), ZERO, 0))
    # Behind no steps just the lengths are known.
    return facts + facts_of(program, [])
