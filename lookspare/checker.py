"""The checker: it lets papers by whose grounds add up, and searches nothing."""

from lookspare.cuts import come_to, into_cuts
from lookspare.ends import end_at, end_by
from lookspare.errors import NoPaper
from lookspare.programs import looks, node_fits
from lookspare.trails import needs


def check(program, papers):
    claims = [claim for claim, grounds in papers]
    ledgers = {}
    for line, leading in into_cuts(program).items():
        ledgers[line] = [Ledger(end_by(program, claims, way)) for way in leading]
    for at, paper in enumerate(papers):
        if not is_grounded(program, ledgers, paper[0], paper[1]):
            raise NoPaper(at)


def check_look(program, claims, look, ground):
    if look not in looks(program) or look[0] not in come_to(program):
        raise NoPaper(None)
    ledger = Ledger(end_at(program, claims, look[0]))
    if not ledger.adds_up(needs(program, look), ground):
        raise NoPaper(None)


def is_grounded(program, ledgers, claim, grounds):
    line = claim[0]
    bound = claim[1]
    if line not in ledgers or not node_fits(program, bound[0]) or not node_fits(program, bound[1]):
        return False
    if len(grounds) != len(ledgers[line]):
        return False
    return all([ledger.adds_up_here(bound, ground) for ledger, ground in zip(ledgers[line], grounds)])


# The facts known at the end of a trail; kept as a dict, since they are many and each ground's facts are looked up.
class Ledger:
    def __init__(self, end):
        self.end = end
        self.known_facts = dict([(fact, True) for fact in end.facts])

    def adds_up_here(self, bound, ground):
        return self.adds_up(self.end.bound_here(bound), ground)

    # The names in the bound are in the versions at the end.
    def adds_up(self, bound, ground):
        if not all([fact in self.known_facts for fact in ground[1]]):
            return False
        if ground[0] == "ring":
            return is_ring(ground[1]) and sum_of(ground[1]) < 0
        return ground[0] == "road" and is_road(ground[1], bound[0], bound[1]) and sum_of(ground[1]) <= bound[2]


def is_ring(facts):
    return len(facts) > 0 and is_road(facts, facts[0][0], facts[0][0])


def is_road(facts, a, b):
    node = a
    for fact in facts:
        if fact[0] != node:
            return False
        node = fact[1]
    return node == b


def sum_of(facts):
    return sum([fact[2] for fact in facts])
