"""What facts show, for many bounds that are asked of the same facts."""

from lookspare.roads import Search, ring_of, road_back


class Showing:
    def __init__(self, facts):
        self.facts = tightest(facts)
        self.ring = ring_of(self.facts)
        self.searches = {}

    def shows(self, bound):
        if self.ring is not None:
            return True
        least_sum = self.search_from(bound[0]).sums.get(bound[1])
        return least_sum is not None and least_sum <= bound[2]

    # Why a bound that is shown is so.
    def ground_for(self, bound):
        if self.ring is not None:
            return ("ring", list(self.ring))
        return ("road", road_back(self.search_from(bound[0]), bound[0], bound[1]))

    def search_from(self, node):
        if node not in self.searches:
            self.searches[node] = Search(self.facts, [node])
        return self.searches[node]


# Of facts of the same two nodes the one with the least c shows all that the others do, so the others are left out.
def tightest(facts):
    found = {}
    for fact in facts:
        nodes = (fact[0], fact[1])
        if nodes not in found or fact[2] < found[nodes][2]:
            found[nodes] = fact
    return list(found.values())
