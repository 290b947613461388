"""Stands, and what facts tell of a bound."""

from lookspare.bounds import ZERO, against
from lookspare.roads import Search, nodes_of, ring_of


def verdict(facts, bound):
    ring = ring_of(facts)
    if ring is not None:
        return ("ring", ring)
    # The facts and a fact against the bound: a ring of them is a road that shows the bound, closed by that fact;
    # where there is none, numbers keep them all, and so break the bound.
    closing = against(bound)
    all_facts = facts + [closing]
    search = Search(all_facts, nodes_of(all_facts + [(ZERO, ZERO, 0)]))
    if search.ring is not None:
        return ("road", opened(search.ring, closing))
    return ("stand", stand_by(search.sums))


def keeps(stand, bound):
    return stand[bound[0]] - stand[bound[1]] <= bound[2]


def opened(ring, fact):
    at = ring.index(fact)
    return ring[at + 1:] + ring[:at]


def stand_by(sums):
    # No sum can be lowered any more, so for each fact that of its second node is at most that of its first one plus
    # c: taken below nought, they keep it.
    stand = {}
    for node in sums:
        stand[node] = sums[ZERO] - sums[node]
    return stand
