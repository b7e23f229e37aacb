"""The calls that only ask about the points, from 8 on.

They are handed the points and not the net, because none of them may give the net other points.
"""

from squaretrees.plane import bounds, distance, has_point
from squaretrees.refusals import NO_SUCH_POINT, NOTHING_THERE
from squaretrees.spanning import pairs_taken


def ask_points(points, arguments):
    answer = [len(points)]
    for x, y in points:
        answer.extend([x, y])
    return answer


def ask_box(points, arguments):
    if not points:
        return [NOTHING_THERE]
    return [0] + bounds(points)


def ask_half(points, arguments):
    if not points:
        return [0]
    box = bounds(points)
    return [box[2] - box[0] + box[3] - box[1]]


def ask_dist(points, arguments):
    i = arguments[0]
    j = arguments[1]
    if not has_point(points, i) or not has_point(points, j):
        return [NO_SUCH_POINT]
    return [distance(points[i], points[j])]


def ask_span(points, arguments):
    taken = pairs_taken(points)
    answer = [sum([length for length, i, j in taken]), len(taken)]
    for length, i, j in taken:
        answer.extend([i, j])
    return answer


QUESTIONS = {
    8: ask_points,
    9: ask_box,
    10: ask_half,
    11: ask_dist,
    12: ask_span,
}


def ask(points, number, arguments):
    return QUESTIONS[number](points, arguments)
