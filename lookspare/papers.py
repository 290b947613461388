"""Papers: claims, each with its grounds by the ways into its line."""

from lookspare.cuts import into_cuts
from lookspare.ends import end_by
from lookspare.showing import Showing


def papers_of(program, claims):
    entries = {}
    for line, leading in into_cuts(program).items():
        entries[line] = [Entry(end_by(program, claims, way)) for way in leading]
    return [(claim, grounds_of(entries, claim)) for claim in claims if claim[0] in entries]


def grounds_of(entries, claim):
    return [entry.ground_of(claim[1]) for entry in entries[claim[0]]]


class Entry:
    def __init__(self, end):
        self.end = end
        self.showing = Showing(end.facts)

    def ground_of(self, bound):
        return self.showing.ground_for(self.end.bound_here(bound))
