"""The calls that only ask about the points, from 8 on.

They are handed the points and not the net, because none of them may give the net other points.
"""

from squaretrees.lengths import shortest_length
from squaretrees.orders import best_chain, best_ring
from squaretrees.plane import bounds, distance, has_point, has_room, in_range, without_point
from squaretrees.refusals import BAD_NUMBER, NO_ROOM, NO_SUCH_POINT, NOTHING_THERE, OUT_OF_RANGE
from squaretrees.spanning import pairs_length, pairs_taken
from squaretrees.stars import best_trunk, middle_point, star_length
from squaretrees.trees import tree_bends, tree_joints, tree_lines


def counted(places):
    answer = [len(places)]
    for x, y in places:
        answer.extend([x, y])
    return answer


def ask_points(points, arguments):
    return counted(points)


def ask_box(points, arguments):
    if not points:
        return [NOTHING_THERE]
    return [0] + bounds(points)


def ask_half(points, arguments):
    if not points:
        return [0]
    box = bounds(points)
    return [box[2] - box[0] + box[3] - box[1]]


def ask_dist(points, arguments):
    i = arguments[0]
    j = arguments[1]
    if not has_point(points, i) or not has_point(points, j):
        return [NO_SUCH_POINT]
    return [distance(points[i], points[j])]


def ask_span(points, arguments):
    taken = pairs_taken(points)
    return [pairs_length(taken)] + counted([(i, j) for length, i, j in taken])


def ask_steiner(points, arguments):
    return [shortest_length(points)]


def ask_tree(points, arguments):
    lines = tree_lines(points)
    answer = [len(lines)]
    for first, other in lines:
        answer.extend([first[0], first[1], other[0], other[1]])
    return answer


def ask_joints(points, arguments):
    return counted(tree_joints(points))


def ask_bends(points, arguments):
    return counted(tree_bends(points))


def ask_with(points, arguments):
    x = arguments[0]
    y = arguments[1]
    if not in_range(x, y):
        return [OUT_OF_RANGE]
    if not has_room(points):
        return [NO_ROOM]
    return [shortest_length(points + [(x, y)])]


def ask_without(points, arguments):
    i = arguments[0]
    if not has_point(points, i):
        return [NO_SUCH_POINT]
    return [shortest_length(without_point(points, i))]


def common_divisor(a, b):
    while b != 0:
        rest = a % b
        a = b
        b = rest
    return a


def ask_ratio(points, arguments):
    shortest = shortest_length(points)
    if shortest == 0:
        return [NOTHING_THERE]
    pairs = pairs_length(pairs_taken(points))
    divisor = common_divisor(pairs, shortest)
    return [pairs // divisor, shortest // divisor]


def ask_median(points, arguments):
    if not points:
        return [NOTHING_THERE]
    middle = middle_point(points)
    return [star_length(points, middle), middle[0], middle[1]]


def ask_star(points, arguments):
    x = arguments[0]
    y = arguments[1]
    if not in_range(x, y):
        return [OUT_OF_RANGE]
    return [star_length(points, (x, y))]


def ask_trunk(points, arguments):
    d = arguments[0]
    if d != 0 and d != 1:
        return [BAD_NUMBER]
    if not points:
        return [NOTHING_THERE]
    if d == 1:
        return list(best_trunk([(y, x) for x, y in points]))
    return list(best_trunk(points))


def ask_chain(points, arguments):
    return best_chain(points)


def ask_ring(points, arguments):
    return best_ring(points)


QUESTIONS = {
    8: ask_points,
    9: ask_box,
    10: ask_half,
    11: ask_dist,
    12: ask_span,
    13: ask_steiner,
    14: ask_tree,
    15: ask_joints,
    16: ask_bends,
    17: ask_with,
    18: ask_without,
    19: ask_ratio,
    20: ask_median,
    21: ask_star,
    22: ask_trunk,
    23: ask_chain,
    24: ask_ring,
}


def ask(points, number, arguments):
    return QUESTIONS[number](points, arguments)
