"""The grid of nodes over some points: every pair of some point's x and some point's y.

A node is known by its number in their order, which is by y, of one y by x. So the node to the right of one is numbered
one more, and the node above it is numbered the grid's width more.
A line is the pair of the numbers of its ends, the left or lower one first: so the order of lines is that of such pairs.
"""

from squaretrees.plane import distance


class Grid:
    def __init__(self, points):
        xs = sorted(set([x for x, y in points]))
        ys = sorted(set([y for x, y in points]))
        self.width = len(xs)
        self.nodes = []
        for y in ys:
            self.nodes.extend([(x, y) for x in xs])


def level_lines(grid):
    return [(i - 1, i) for i in range(1, len(grid.nodes)) if i % grid.width != 0]


def upright_lines(grid):
    return [(i - grid.width, i) for i in range(grid.width, len(grid.nodes))]


def sweep_steps(grid):
    """All steps along lines with their lengths, in four sweeps: to the right, to the left, up and down."""
    steps = []
    for lines in (level_lines(grid), upright_lines(grid)):
        steps.extend(lines)
        steps.extend([(end, start) for start, end in reversed(lines)])
    return [(here, there, distance(grid.nodes[here], grid.nodes[there])) for here, there in steps]


def lines_on_way(grid, here, there):
    """A way goes level first, at the first node's y, then upright, at the second node's x."""
    corner = here - here % grid.width + there % grid.width
    level = [(i, i + 1) for i in range(min(here, corner), max(here, corner))]
    upright = [(i, i + grid.width) for i in range(min(corner, there), max(corner, there), grid.width)]
    return level + upright
