"""The shortest orders in which all points can be visited.

A set of points is its number: the sum of 2^i for its members' numbers i.
"""

from squaretrees.plane import distance


def next_choices(points, ahead, rest, here):
    """Each point that may be visited next, behind the least sum from here on if it is."""
    choices = []
    for there in range(len(points)):
        bit = 1 << there
        if rest & bit == bit:
            choices.append((distance(points[here], points[there]) + ahead[rest - bit][there], there))
    return choices


def sums_ahead(points, home):
    """For each set still to be visited and each point, the least sum from that point on through the whole set.

    `home` has what is still to come behind each point if it is the last one.
    """
    ahead = [list(home)]
    for rest in range(1, 1 << len(points)):
        ahead.append([min(next_choices(points, ahead, rest, here))[0] for here in range(len(points))])
    return ahead


# Of several equally short choices the least number is taken, at each step: so the order is the first of the shortest.
def best_order(points, starts, home):
    ahead = sums_ahead(points, home)
    every = (1 << len(points)) - 1
    best = min([(ahead[every - (1 << start)][start], start) for start in starts])
    order = [best[1]]
    rest = every - (1 << best[1])
    while rest != 0:
        there = min(next_choices(points, ahead, rest, order[-1]))[1]
        order.append(there)
        rest = rest - (1 << there)
    return [best[0], len(order)] + order


def best_chain(points):
    if not points:
        return [0, 0]
    return best_order(points, list(range(len(points))), [0 for point in points])


def best_ring(points):
    if not points:
        return [0, 0]
    return best_order(points, [0], [distance(point, points[0]) for point in points])
