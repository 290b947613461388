"""Bounds of two nodes: nought, names in their versions, and rows' lengths."""

ZERO = ("zero",)


# A value of a line, a name or None, with each name in the version that is told for it.
def value_node(value, now):
    return ZERO if value is None else ("name", value, now[value])


def node_now(node, now):
    # A claim may speak of a name that the program doesn't have; no step gives it, so it stays as it is.
    if node[0] == "name" and node[1] < len(now):
        return value_node(node[1], now)
    return node


def bound_now(bound, now):
    return (node_now(bound[0], now), node_now(bound[1], now), bound[2])


# What is so just where the bound is not: numbers are whole ones.
def against(bound):
    return (bound[1], bound[0], -1 - bound[2])
