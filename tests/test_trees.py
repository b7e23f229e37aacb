"""The calls 13 to 19: the shortest tree, its lines, and its length with other points."""

import itertools
import math
import unittest

from tests.support import (
    FAR, LIMIT, CallCase, adds, ask, bends, distance, joints, ratio, scattered, span, steiner, tree, with_point,
    without_point,
)

SQUARE = [(0, 0), (2, 0), (0, 2), (2, 2)]
CROSS = [(0, 1), (2, 1), (1, 0), (1, 2)]
LEVEL = [(5, 3), (-2, 3), (9, 3), (0, 3)]
UPRIGHT = [(3, 5), (3, -2), (3, 9), (3, 0)]
REPEATED_GRID = [(0, 0), (1, 0), (0, 0), (2, 0), (0, 1), (1, 1), (2, 1)]
SEVEN = [(0, 0), (7, 11), (-5, 8), (12, -3), (4, -9), (-8, -4), (15, 6)]
FAR_APART = [(-LIMIT, -LIMIT), (LIMIT, LIMIT), (-LIMIT, LIMIT), (LIMIT, -LIMIT), (0, 0)]
BEYOND = [(LIMIT + 1, 0), (-LIMIT - 1, 0), (0, LIMIT + 1), (0, -LIMIT - 1), (FAR, 0), (0, -FAR), (FAR, FAR)]


class Words:
    """The shortest tree, worked out as slowly and as plainly as the document tells it.

    A set of t1, t2, .. is a tuple of the numbers i of its members, the least first.
    """

    def __init__(self, points):
        self.points = points
        self.places = list(dict.fromkeys(points))
        self.xs = sorted({x for x, y in points})
        self.ys = sorted({y for x, y in points})
        self.nodes = [(x, y) for y in self.ys for x in self.xs]
        self.lengths = {}
        self.parted = {}
        self.others = tuple(range(1, len(self.places)))

    def partings(self, members):
        for size in range(1, len(members)):
            for a in itertools.combinations(members, size):
                yield a, tuple(i for i in members if i not in a)

    def m(self, members, u):
        key = members, u
        if key not in self.parted:
            self.parted[key] = min(self.l(a, u) + self.l(b, u) for a, b in self.partings(members))
        return self.parted[key]

    def l(self, members, v):
        key = members, v
        if key not in self.lengths:
            if len(members) == 1:
                self.lengths[key] = distance(v, self.places[members[0]])
            else:
                self.lengths[key] = min(distance(v, u) + self.m(members, u) for u in self.nodes)
        return self.lengths[key]

    def length(self):
        return self.l(self.others, self.places[0]) if self.others else 0

    def ways(self, members, v):
        if len(members) == 1:
            return [(v, self.places[members[0]])]
        u = [u for u in self.nodes if distance(v, u) + self.m(members, u) == self.l(members, v)][0]
        fitting = [
            (sum(2 ** (i - 1) for i in a), a, b) for a, b in self.partings(members)
            if members[0] in a and self.l(a, u) + self.l(b, u) == self.m(members, u)
        ]
        number, a, b = min(fitting)
        return [(v, u)] + self.ways(a, u) + self.ways(b, u)

    def lines(self):
        """The lines as x, y, x, y, in order; a line is there if it lies within one of the two legs of a way."""
        ways = self.ways(self.others, self.places[0]) if self.others else []
        found = []
        for y in self.ys:
            for x in self.xs:
                for right in self.xs[self.xs.index(x) + 1:][:1]:
                    if any(v[1] == y and min(v[0], u[0]) <= x < right <= max(v[0], u[0]) for v, u in ways):
                        found.append((x, y, right, y))
                for above in self.ys[self.ys.index(y) + 1:][:1]:
                    if any(u[0] == x and min(v[1], u[1]) <= y < above <= max(v[1], u[1]) for v, u in ways):
                        found.append((x, y, x, above))
        return found

    def free(self, wanted):
        """The nodes without a point whose numbers of level and of upright lines are wanted, counted and in a row."""
        lines = self.lines()
        found = []
        for node in self.nodes:
            there = [line for line in lines if node in (line[:2], line[2:])]
            level = len([line for line in there if line[1] == line[3]])
            if node not in self.points and wanted(level, len(there) - level):
                found.append(node)
        return [len(found)] + [number for node in found for number in node]


def told_lines(lines):
    return [len(lines)] + [number for line in lines for number in line]


def least_tree_of_pairs(places):
    total, inside, outside = 0, list(places[:1]), list(places[1:])
    while outside:
        far, nearest = min((min(distance(place, other) for other in inside), place) for place in outside)
        total += far
        inside.append(nearest)
        outside.remove(nearest)
    return total


def shortest_by_extra_nodes(points):
    """The shortest tree of pairs of all places and any few more nodes: a shortest tree needs no others than these."""
    places = list(dict.fromkeys(points))
    nodes = [(x, y) for x in {x for x, y in places} for y in {y for x, y in places} if (x, y) not in places]
    return min(
        least_tree_of_pairs(places + list(extra))
        for size in range(max(len(places) - 1, 1)) for extra in itertools.combinations(nodes, size)
    )


class Steiner(CallCase):
    def test_no_place_and_one(self):
        self.check([], steiner(), [0])
        self.check([(3, -4)], steiner(), [0])
        self.check([(3, -4)] * 2, steiner(), [0])
        self.check([(3, -4)] * 7, steiner(), [0])

    def test_two_places(self):
        self.check([(0, 0), (3, 4)], steiner(), [7])
        self.check([(0, 0), (-3, 4)], steiner(), [7])
        self.check([(0, 0), (3, 4)] * 3, steiner(), [7])

    def test_on_one_line(self):
        self.check(LEVEL, steiner(), [11])
        self.check(UPRIGHT, steiner(), [11])

    def test_several_places(self):
        self.check(SQUARE, steiner(), [6])
        self.check(CROSS, steiner(), [4])
        self.check([(0, 0), (10, 2), (4, 7)], steiner(), [17])
        self.check(REPEATED_GRID, steiner(), [5])
        self.check(SEVEN, steiner(), [63])

    def test_the_edges_of_the_range(self):
        self.check([(-LIMIT, -LIMIT), (LIMIT, LIMIT)], steiner(), [4 * LIMIT])
        self.check(FAR_APART[:4], steiner(), [6 * LIMIT])
        self.check(FAR_APART, steiner(), [6 * LIMIT])

    def test_no_order_of_points_makes_it_longer(self):
        for places in itertools.permutations(SEVEN[:5]):
            self.assertEqual(ask(adds(places) + [steiner()])[-1], [Words(SEVEN[:5]).length()])

    def test_against_extra_nodes(self):
        for places in scattered(3, range(1, 6), [2, 6, 40], 6):
            self.check(places, steiner(), [shortest_by_extra_nodes(places)])


class Tree(CallCase):
    def test_no_place_and_one(self):
        self.check([], tree(), [0])
        self.check([(3, -4)], tree(), [0])
        self.check([(3, -4)] * 7, tree(), [0])

    def test_level_first_then_upright(self):
        self.check([(0, 0), (3, 4)], tree(), [2, 0, 0, 3, 0, 3, 0, 3, 4])
        self.check([(3, 4), (0, 0)], tree(), [2, 0, 0, 0, 4, 0, 4, 3, 4])
        self.check([(3, 0), (0, 4)], tree(), [2, 0, 0, 3, 0, 0, 0, 0, 4])
        self.check([(0, 4), (3, 0)], tree(), [2, 3, 0, 3, 4, 0, 4, 3, 4])
        self.check([(0, 0), (0, 0), (3, 4), (0, 0), (3, 4)], tree(), [2, 0, 0, 3, 0, 3, 0, 3, 4])

    def test_on_one_line(self):
        self.check(LEVEL, tree(), [3, -2, 3, 0, 3, 0, 3, 5, 3, 5, 3, 9, 3])
        self.check(UPRIGHT, tree(), [3, 3, -2, 3, 0, 3, 0, 3, 5, 3, 5, 3, 9])

    def test_of_two_with_one_first_end_the_level_one_first(self):
        self.check(SQUARE, tree(), [3, 0, 0, 2, 0, 0, 0, 0, 2, 0, 2, 2, 2])
        self.check(CROSS, tree(), [4, 1, 0, 1, 1, 0, 1, 1, 1, 1, 1, 2, 1, 1, 1, 1, 2])

    def test_which_corners_of_a_square_are_joined(self):
        self.check([(2, 2), (0, 2), (2, 0), (0, 0)], tree(), [3, 0, 0, 2, 0, 0, 0, 0, 2, 2, 0, 2, 2])
        self.check([(0, 0), (2, 2), (2, 0), (0, 2)], tree(), [3, 0, 0, 2, 0, 0, 0, 0, 2, 2, 0, 2, 2])

    def test_a_grid_with_repeated_points(self):
        self.check(REPEATED_GRID, tree(), [5, 0, 0, 1, 0, 0, 0, 0, 1, 2, 0, 2, 1, 0, 1, 1, 1, 1, 1, 2, 1])
        self.check([(0, 0), (1, 0), (2, 0), (0, 1), (2, 1), (0, 2), (1, 2)], tree(), [
            6, 0, 0, 1, 0, 0, 0, 0, 1, 1, 0, 2, 0, 2, 0, 2, 1, 0, 1, 0, 2, 0, 2, 1, 2,
        ])

    def test_seven_points_in_general_position(self):
        self.check(SEVEN, tree(), [
            18,
            4, -9, 4, -4, -8, -4, -8, -3, 4, -4, 4, -3,
            -8, -3, -5, -3, -5, -3, 0, -3, -5, -3, -5, 0, 0, -3, 4, -3, 0, -3, 0, 0,
            4, -3, 7, -3, 7, -3, 12, -3, 7, -3, 7, 0,
            -5, 0, -5, 6, 7, 0, 7, 6, -5, 6, -5, 8, 7, 6, 12, 6, 7, 6, 7, 8, 12, 6, 15, 6, 7, 8, 7, 11,
        ])

    def test_the_edges_of_the_range(self):
        self.check([(-LIMIT, -LIMIT), (LIMIT, LIMIT)], tree(), [
            2, -LIMIT, -LIMIT, LIMIT, -LIMIT, LIMIT, -LIMIT, LIMIT, LIMIT,
        ])
        self.check(FAR_APART, tree(), [
            6, -LIMIT, -LIMIT, 0, -LIMIT, 0, -LIMIT, LIMIT, -LIMIT, 0, -LIMIT, 0, 0, 0, 0, 0, LIMIT,
            -LIMIT, LIMIT, 0, LIMIT, 0, LIMIT, LIMIT, LIMIT,
        ])

    def test_every_line_once_and_all_points_joined(self):
        for places in scattered(5, [2, 4, 7], [2, 3, 30], 8):
            with self.subTest(places=places):
                told, length = ask(adds(places) + [tree(), steiner()])[-2:]
                lines = [tuple(told[i:i + 4]) for i in range(1, len(told), 4)]
                self.assertEqual((len(lines), len(told)), (told[0], 1 + 4 * told[0]))
                self.assertEqual(sum(distance(line[:2], line[2:]) for line in lines), length[0])
                reached = {places[0]}
                for again in lines:
                    for line in lines:
                        if reached & {line[:2], line[2:]}:
                            reached |= {line[:2], line[2:]}
                self.assertEqual(set(places) - reached, set())
                self.assertEqual(len(reached), len(lines) + 1)


class Joints(CallCase):
    def test_three_lines_and_four(self):
        self.check([(0, 0), (2, 0), (1, 3)], joints(), [1, 1, 0])
        self.check([(0, 0), (0, 2), (3, 1)], joints(), [1, 0, 1])
        self.check(CROSS, joints(), [1, 1, 1])

    def test_in_order(self):
        self.check(SEVEN, joints(), [5, -5, -3, 0, -3, 4, -3, 7, -3, 7, 6])
        self.check(FAR_APART, joints(), [2, 0, -LIMIT, 0, LIMIT])
        self.check([(-4, 4), (3, 1), (0, 6), (2, 3), (5, 2), (-3, -4)], joints(), [3, 3, 2, -3, 3, 0, 3])

    def test_only_where_no_point_is(self):
        self.check(CROSS + [(1, 1)], joints(), [0])
        self.check([(1, 1)] + CROSS, joints(), [0])
        self.check([(0, 0), (2, 0), (1, 3), (1, 0)], joints(), [0])

    def test_two_lines_are_no_joint(self):
        self.check([(0, 0), (3, 4)], joints(), [0])
        self.check([(0, 0), (12, 0), (12, 5), (12, 9), (8, 9)], joints(), [0])
        self.check(SQUARE, joints(), [0])
        self.check(LEVEL, joints(), [0])

    def test_without_lines(self):
        self.check([], joints(), [0])
        self.check([(3, -4)], joints(), [0])
        self.check([(3, -4)] * 7, joints(), [0])


class Bends(CallCase):
    def test_one_level_and_one_upright(self):
        self.check([(0, 0), (3, 4)], bends(), [1, 3, 0])
        self.check([(3, 4), (0, 0)], bends(), [1, 0, 4])
        self.check([(0, 0), (10, 2), (4, 7)], bends(), [1, 4, 0])
        self.check(SEVEN, bends(), [1, -8, -3])

    def test_in_order(self):
        self.check([(-1, 1), (-6, 2), (1, -6), (0, -2)], bends(), [3, 1, -2, -6, 1, 0, 1])

    def test_only_where_no_point_is(self):
        self.check([(0, 0), (3, 4), (3, 0)], bends(), [0])
        self.check(SQUARE, bends(), [0])

    def test_two_lines_that_go_straight_on_are_no_bend(self):
        self.check([(0, 0), (12, 0), (12, 5), (12, 9), (8, 9)], bends(), [0])
        self.check([(0, 0), (0, 12), (5, 12), (9, 12), (9, 8)], bends(), [0])

    def test_three_lines_and_four_are_no_bend(self):
        self.check([(0, 0), (2, 0), (1, 3)], bends(), [0])
        self.check(CROSS, bends(), [0])

    def test_without_lines(self):
        self.check([], bends(), [0])
        self.check([(3, -4)], bends(), [0])
        self.check([(3, -4)] * 7, bends(), [0])


class AgainstTheWords(CallCase):
    def check_all(self, places):
        words = Words(places)
        self.check(places, steiner(), [words.length()])
        self.check(places, tree(), told_lines(words.lines()))
        self.check(places, joints(), words.free(lambda level, upright: level + upright >= 3))
        self.check(places, bends(), words.free(lambda level, upright: (level, upright) == (1, 1)))

    def test_few_points(self):
        for places in scattered(7, range(6), [1, 2, 5, 60], 6):
            self.check_all(places)

    def test_six_and_seven_points(self):
        for places in scattered(8, [6, 7], [1, 2, 3], 4):
            self.check_all(places)
        for places in scattered(9, [6, 7], [20, LIMIT], 1):
            self.check_all(places)

    def test_equally_short_trees(self):
        for places in itertools.permutations(SQUARE):
            self.check_all(list(places))
        for places in itertools.permutations(CROSS):
            self.check_all(list(places))
        for places in itertools.permutations([(0, 0), (1, 0), (0, 1), (1, 1), (2, 1)]):
            self.check_all(list(places))


class With(CallCase):
    def test_the_length_with_one_more(self):
        self.check([], with_point(3, 4), [0])
        self.check([(0, 0)], with_point(3, 4), [7])
        self.check(SQUARE, with_point(1, 1), [6])
        self.check(CROSS, with_point(3, 3), [7])
        self.check([(0, 0), (2, 0)], with_point(1, 3), [5])

    def test_a_place_that_is_there_already(self):
        self.check([(3, 4)], with_point(3, 4), [0])
        for x, y in CROSS:
            self.check(CROSS, with_point(x, y), [4])

    def test_the_seventh_and_the_eighth(self):
        self.check(SEVEN[:6], with_point(*SEVEN[6]), [63])
        self.refuse(SEVEN, with_point(1, 1), -2)
        self.refuse(SEVEN, with_point(*SEVEN[0]), -2)
        self.refuse([(3, 4)] * 7, with_point(3, 4), -2)

    def test_the_edges_of_the_range(self):
        self.check([(-LIMIT, -LIMIT)], with_point(LIMIT, LIMIT), [4 * LIMIT])
        self.check([(LIMIT, LIMIT)], with_point(-LIMIT, -LIMIT), [4 * LIMIT])
        for x, y in BEYOND:
            self.refuse([], with_point(x, y), -1)
            self.refuse(SQUARE, with_point(x, y), -1)

    def test_out_of_range_stands_before_no_room(self):
        for x, y in BEYOND:
            self.refuse(SEVEN, with_point(x, y), -1)

    def test_against_the_words(self):
        for places in scattered(17, range(1, 6), [2, 30], 3):
            self.check(places[:-1], with_point(*places[-1]), [Words(places).length()])


class Without(CallCase):
    def test_the_length_without_one(self):
        self.check(CROSS, without_point(0), [3])
        self.check([(0, 0), (2, 0), (1, 3)], without_point(0), [4])
        self.check([(0, 0), (2, 0), (1, 3)], without_point(1), [4])
        self.check([(0, 0), (2, 0), (1, 3)], without_point(2), [2])
        for i in range(7):
            self.check(SEVEN, without_point(i), [Words(SEVEN[:i] + SEVEN[i + 1:]).length()])

    def test_down_to_one_point_and_to_none(self):
        self.check([(0, 0), (3, 4)], without_point(0), [0])
        self.check([(0, 0), (3, 4)], without_point(1), [0])
        self.check([(3, 4)], without_point(0), [0])

    def test_one_of_two_at_one_place(self):
        places = [(0, 0), (3, 4), (0, 0)]
        self.check(places, without_point(0), [7])
        self.check(places, without_point(2), [7])
        self.check(places, without_point(1), [0])

    def test_no_such_point(self):
        for i in [-1, -4, 4, 5, 6, 7, FAR, -FAR]:
            self.refuse(SQUARE, without_point(i), -3)
        for i in [-1, -7, 7, 8, FAR, -FAR]:
            self.refuse(SEVEN, without_point(i), -3)
        self.refuse([], without_point(0), -3)
        self.refuse([], without_point(-1), -3)


class Ratio(CallCase):
    def test_divided_by_the_common_divisor(self):
        self.check(CROSS, ratio(), [3, 2])
        self.check(SQUARE, ratio(), [1, 1])
        self.check([(0, 0), (3, 4)], ratio(), [1, 1])
        self.check([(0, 0), (10, 2), (4, 7)], ratio(), [22, 17])
        self.check(SEVEN, ratio(), [11, 9])
        self.check(FAR_APART, ratio(), [4, 3])

    def test_several_at_one_place(self):
        self.check([(3, 4), (0, 0), (3, 4)], ratio(), [1, 1])

    def test_a_tree_without_length(self):
        self.refuse([], ratio(), -5)
        self.refuse([(3, 4)], ratio(), -5)
        self.refuse([(3, 4)] * 2, ratio(), -5)
        self.refuse([(3, 4)] * 7, ratio(), -5)

    def test_against_both_lengths(self):
        for places in scattered(19, [2, 3, 5, 7], [3, 9, LIMIT], 4):
            pairs, shortest = [part[0] for part in ask(adds(places) + [span(), steiner()])[-2:]]
            if shortest:
                divisor = math.gcd(pairs, shortest)
                self.check(places, ratio(), [pairs // divisor, shortest // divisor])


if __name__ == "__main__":
    unittest.main()
