"""How long the shortest trees are that join a node and a set of places.

A set of the places t1, t2, .. behind the first one is its number: the sum of 2^(i - 1) for its members ti.
"""

from squaretrees.grid import Grid, sweep_steps
from squaretrees.plane import distance, unlike


class Table:
    """Under a set S `joined` has L(S, v) for each node v, and `parted` has M(S, u) for each node u.

    `ends` has the node of each ti under the set of ti alone, `root` is the first place's node, and `whole` is the set
    of all ti.
    """

    def __init__(self, places):
        self.grid = Grid(places)
        self.root = self.grid.nodes.index(places[0])
        self.ends = {}
        for i, place in enumerate(places[1:]):
            self.ends[1 << i] = self.grid.nodes.index(place)
        self.whole = sum(list(self.ends))
        self.joined = {}
        self.parted = {}


def parts_of(group):
    """The parts of a set that have its first member and aren't all of it, the least number first."""
    first = group & -group
    return [part for part in range(first, group) if part & first == first and part & group == part]


def least_parted(joined, group, parts, u):
    return min([joined[part][u] + joined[group - part][u] for part in parts])


def parted_lengths(table, group):
    parts = parts_of(group)
    return [least_parted(table.joined, group, parts, u) for u in range(len(table.grid.nodes))]


def end_lengths(table, group):
    nodes = table.grid.nodes
    end = nodes[table.ends[group]]
    return [distance(node, end) for node in nodes]


# Between any two nodes a shortest way goes level in one direction, then upright in one direction: so one sweep in each
# of the four directions brings every node's length to all others, and not every two nodes need be compared.
def spread(lengths, steps):
    """For each node the least, over all nodes, of the distance to that one and its length, added up."""
    reached = list(lengths)
    for here, there, far in steps:
        reached[there] = min(reached[there], reached[here] + far)
    return reached


def filled_table(places):
    table = Table(places)
    steps = sweep_steps(table.grid)
    for group in range(1, table.whole + 1):
        if group in table.ends:
            table.joined[group] = end_lengths(table, group)
        else:
            table.parted[group] = parted_lengths(table, group)
            table.joined[group] = spread(table.parted[group], steps)
    return table


def shortest_length(points):
    places = unlike(points)
    if len(places) < 2:
        return 0
    table = filled_table(places)
    return table.joined[table.whole][table.root]
