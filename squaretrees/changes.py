"""The calls that change a net's points, 0 to 7.

Each one gives back its answer, and sets the points only once no refusal is due.
"""

from squaretrees.plane import all_in_range, has_point, has_room, in_range, without_point
from squaretrees.refusals import BAD_NUMBER, NO_ROOM, NO_SUCH_POINT, OUT_OF_RANGE

MOST_TIMES = 1000


class Net:
    def __init__(self):
        self.points = []


def begin(net, arguments):
    net.points = []
    return [0]


def add_point(net, arguments):
    x = arguments[0]
    y = arguments[1]
    if not in_range(x, y):
        return [OUT_OF_RANGE]
    if not has_room(net.points):
        return [NO_ROOM]
    net.points = net.points + [(x, y)]
    return [len(net.points) - 1]


def remove_point(net, arguments):
    i = arguments[0]
    if not has_point(net.points, i):
        return [NO_SUCH_POINT]
    net.points = without_point(net.points, i)
    return [len(net.points)]


def move_point(net, arguments):
    i = arguments[0]
    x = arguments[1]
    y = arguments[2]
    if not in_range(x, y):
        return [OUT_OF_RANGE]
    if not has_point(net.points, i):
        return [NO_SUCH_POINT]
    net.points = net.points[:i] + [(x, y)] + net.points[i + 1:]
    return [0]


def shift(net, arguments):
    dx = arguments[0]
    dy = arguments[1]
    shifted = [(x + dx, y + dy) for x, y in net.points]
    if not all_in_range(shifted):
        return [OUT_OF_RANGE]
    net.points = shifted
    return [0]


def turn(net, arguments):
    turned = net.points
    for quarter in range(arguments[0] % 4):
        turned = [(-y, x) for x, y in turned]
    net.points = turned
    return [0]


def flip(net, arguments):
    net.points = [(-x, y) for x, y in net.points]
    return [0]


def scale(net, arguments):
    n = arguments[0]
    scaled = [(x * n, y * n) for x, y in net.points]
    if not all_in_range(scaled):
        return [OUT_OF_RANGE]
    if not 1 <= n <= MOST_TIMES:
        return [BAD_NUMBER]
    net.points = scaled
    return [0]


CHANGES = {
    0: begin,
    1: add_point,
    2: remove_point,
    3: move_point,
    4: shift,
    5: turn,
    6: flip,
    7: scale,
}


def change(net, number, arguments):
    return CHANGES[number](net, arguments)
