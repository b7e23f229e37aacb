"""Points of the plane, each a tuple of x and y."""

LIMIT = 1000000000
MOST_POINTS = 7


def in_range(x, y):
    return -LIMIT <= x <= LIMIT and -LIMIT <= y <= LIMIT


def all_in_range(points):
    return all([in_range(x, y) for x, y in points])


def has_point(points, i):
    return 0 <= i < len(points)


def has_room(points):
    return len(points) < MOST_POINTS


def without_point(points, i):
    return points[:i] + points[i + 1:]


def distance(here, there):
    return abs(here[0] - there[0]) + abs(here[1] - there[1])


def unlike(points):
    places = []
    for point in points:
        if point not in places:
            places.append(point)
    return places


def bounds(points):
    xs = [x for x, y in points]
    ys = [y for x, y in points]
    return [min(xs), min(ys), max(xs), max(ys)]
