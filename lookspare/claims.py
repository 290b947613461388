"""Claims: the facts known by them, whether they hold, and which of some candidates are kept."""

from lookspare.cuts import into_cuts
from lookspare.ends import bounds_at, end_at, end_by
from lookspare.showing import Showing


def known(program, claims, way):
    return end_by(program, claims, way).facts


def known_at(program, claims, line):
    return end_at(program, claims, line).facts


def hold(program, claims):
    for line, leading in into_cuts(program).items():
        bounds = bounds_at(claims, line)
        for way in leading:
            if not are_shown(end_by(program, claims, way), bounds):
                return False
    return True


def kept(program, candidates):
    falling = Falling(program, candidates)
    falling.fall()
    each_once = dict([(claim, True) for claim in candidates])
    return [claim for claim in each_once if falling.leaves(claim)]


def are_shown(end, bounds):
    showing = Showing(end.facts)
    return all([showing.shows(end.bound_here(bound)) for bound in bounds])


# Candidates, of which those fall that the ones left don't show. What shows a bound shows also each of the same two
# nodes with a greater c: so at each cut those of the same two nodes are a pile from which the least c falls first,
# and as facts the least c that is left tells all that the others do.
class Falling:
    def __init__(self, program, candidates):
        self.piles = {}
        self.ends = []
        for line, leading in into_cuts(program).items():
            self.piles[line] = piles_of(bounds_at(candidates, line))
            self.ends.extend([(line, end_by(program, [], way)) for way in leading])

    def fall(self):
        changed = [None] + list(self.piles)
        while changed:
            changed = self.fall_behind(changed)

    # The lines at which something falls, now that something fell at the cuts told.
    def fall_behind(self, changed):
        lost = []
        for line, end in self.ends:
            if end.cut in changed and self.falls_at(line, end):
                lost.append(line)
        return lost

    def falls_at(self, line, end):
        showing = Showing(self.facts_left(end.cut) + end.facts)
        lost = False
        for nodes in list(self.piles[line]):
            numbers = self.piles[line][nodes]
            while numbers and not showing.shows(end.bound_here((nodes[0], nodes[1], numbers[-1]))):
                numbers.pop()
                lost = True
        return lost

    def facts_left(self, cut):
        piles = self.piles.get(cut, {})
        return [(nodes[0], nodes[1], numbers[-1]) for nodes, numbers in piles.items() if numbers]

    def leaves(self, claim):
        bound = claim[1]
        numbers = self.piles.get(claim[0], {}).get((bound[0], bound[1]), [])
        return bool(numbers) and numbers[-1] <= bound[2]


# For each two nodes the c of the bounds of them, the least last.
def piles_of(bounds):
    piles = {}
    for bound in sorted(bounds, key=number_in, reverse=True):
        piles.setdefault((bound[0], bound[1]), []).append(bound[2])
    return piles


def number_in(bound):
    return bound[2]
