"""Sums of distances to one place, and trunks with branches."""

from squaretrees.plane import bounds, distance


def star_length(points, centre):
    return sum([distance(point, centre) for point in points])


def middle_number(numbers):
    return sorted(numbers)[(len(numbers) - 1) // 2]


def middle_point(points):
    return (middle_number([x for x, y in points]), middle_number([y for x, y in points]))


# Both branches of one x and the trunk between them are one upright piece: it goes from the lowest of the points and the
# trunk to the highest of them.
def branches_length(points, t):
    total = 0
    for column in sorted(set([x for x, y in points])):
        heights = [y for x, y in points if x == column] + [t]
        total += max(heights) - min(heights)
    return total


def best_trunk(points):
    """The length and the height of the shortest level trunk with its branches, of several the lowest."""
    box = bounds(points)
    width = box[2] - box[0]
    return min([(width + branches_length(points, t), t) for x, t in points])
