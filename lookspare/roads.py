"""Roads and rings: facts end to end, and the least sums of them."""


# The least sums of the roads from some nodes on; where a ring of a sum below 0 is met there are none, but the ring.
class Search:
    def __init__(self, facts, starts):
        self.leading = by_first_node(facts)
        self.sums = dict([(node, 0) for node in starts])
        self.last = {}
        self.ring = None
        changed = list(starts)
        unlooked = 0
        while changed and self.ring is None:
            changed = self.go_further(changed)
            unlooked += len(changed)
            # A look for a ring goes through all nodes, so it waits until as many sums were changed.
            if unlooked >= len(self.last):
                self.ring = ring_among(self.last)
                unlooked = 0

    def go_further(self, nodes):
        changed = {}
        for node in nodes:
            for fact in self.leading.get(node, []):
                total = self.sums[node] + fact[2]
                if fact[1] not in self.sums or total < self.sums[fact[1]]:
                    self.sums[fact[1]] = total
                    self.last[fact[1]] = fact
                    changed[fact[1]] = True
        # Turned round at each go, long roads are soon gone through in whichever order their facts stand.
        return list(reversed(list(changed)))


def least(facts, a, b):
    return Search(facts, [a]).sums.get(b)


def ring_of(facts):
    return Search(facts, nodes_of(facts)).ring


# The road by which a search from a alone came to b; the search met no ring of a sum below 0.
def road_back(search, a, b):
    back = []
    node = b
    while node != a:
        back.append(search.last[node])
        node = back[-1][0]
    return list(reversed(back))


def nodes_of(facts):
    nodes = {}
    for fact in facts:
        nodes[fact[0]] = True
        nodes[fact[1]] = True
    return list(nodes)


def by_first_node(facts):
    leading = {}
    for fact in facts:
        leading.setdefault(fact[0], []).append(fact)
    return leading


def ring_among(last):
    # A node's sum was lowered through its last fact. Where these facts lead in a ring each sum on it was lowered
    # through itself, so the ring's sum is below 0; and where there is such a ring the search comes to one.
    seen = {}
    for start in last:
        node = start
        while node in last and node not in seen:
            seen[node] = start
            node = last[node][0]
        if seen.get(node) == start:
            return ring_through(last, node)
    return None


def ring_through(last, node):
    ring = [last[node]]
    while ring[-1][0] != node:
        ring.append(last[ring[-1][0]])
    return list(reversed(ring))
