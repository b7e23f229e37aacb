"""The shortest tree of pairs of points."""

from squaretrees.plane import distance


# A pair is (distance, i, j) with i < j: so its own order is the order in which pairs are gone through.
def pairs_in_order(points):
    pairs = []
    for i in range(len(points)):
        for j in range(i + 1, len(points)):
            pairs.append((distance(points[i], points[j]), i, j))
    return sorted(pairs)


def merged(groups, kept, gone):
    return [kept if group == gone else group for group in groups]


def pairs_taken(points):
    groups = list(range(len(points)))
    taken = []
    for length, i, j in pairs_in_order(points):
        if groups[i] != groups[j]:
            taken.append((length, i, j))
            groups = merged(groups, groups[i], groups[j])
    return taken


def pairs_length(pairs):
    return sum([length for length, i, j in pairs])
