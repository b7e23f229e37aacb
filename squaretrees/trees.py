"""Where the lines of the shortest tree lie, and the nodes at which they meet."""

from squaretrees.grid import lines_on_way
from squaretrees.lengths import filled_table, parts_of
from squaretrees.plane import distance, unlike


# A pair of a length and a number: so the least pair has the first number of those with the least length.
def first_node(table, group, v):
    nodes = table.grid.nodes
    parted = table.parted[group]
    return min([(distance(nodes[v], nodes[u]) + parted[u], u) for u in range(len(nodes))])[1]


def first_part(table, group, u):
    joined = table.joined
    return min([(joined[part][u] + joined[group - part][u], part) for part in parts_of(group)])[1]


def tree_ways(table):
    """The tree's ways, each a pair of nodes' numbers."""
    ways = []
    waiting = [(table.whole, table.root)]
    while waiting:
        state = waiting.pop()
        group = state[0]
        v = state[1]
        if group in table.ends:
            ways.append((v, table.ends[group]))
        else:
            u = first_node(table, group, v)
            part = first_part(table, group, u)
            ways.append((v, u))
            waiting.extend([(part, u), (group - part, u)])
    return ways


def tree_lines(points):
    """The tree's lines in order, each a pair of its ends' places."""
    places = unlike(points)
    if len(places) < 2:
        return []
    table = filled_table(places)
    found = {}
    for here, there in tree_ways(table):
        for line in lines_on_way(table.grid, here, there):
            found[line] = True
    nodes = table.grid.nodes
    return [(nodes[start], nodes[end]) for start, end in sorted(list(found))]


def lines_at(lines, axis):
    """How many lines each node has of those whose ends have one x (axis 0) or one y (axis 1)."""
    counts = {}
    for line in lines:
        if line[0][axis] == line[1][axis]:
            for node in line:
                counts[node] = counts.get(node, 0) + 1
    return counts


def free_nodes(points):
    """For each node of the tree at which no point is, in order: the node, its level lines, its upright lines."""
    lines = tree_lines(points)
    upright = lines_at(lines, 0)
    level = lines_at(lines, 1)
    nodes = sorted(set(list(upright) + list(level)) - set(points))
    counted = [(node, level.get(node, 0), upright.get(node, 0)) for node in nodes]
    return sorted(counted, key=lambda entry: (entry[0][1], entry[0][0]))


def tree_joints(points):
    return [node for node, level, upright in free_nodes(points) if level + upright >= 3]


def tree_bends(points):
    return [node for node, level, upright in free_nodes(points) if level == 1 and upright == 1]
