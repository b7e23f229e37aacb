"""The calls 8 to 12, which ask about the points."""

import itertools
import unittest

from tests.support import FAR, LIMIT, CallCase, box, dist, distance, half, points, scattered, span, told

THREE = [(1, 2), (-3, 4), (5, -6)]
SEVEN = [(0, 0), (1, 10), (2, 20), (3, 30), (4, 40), (5, 50), (6, 60)]


class Points(CallCase):
    def test_how_many_then_each(self):
        self.check([], points(), [0])
        self.check([(4, -5)], points(), [1, 4, -5])
        self.check(THREE, points(), [3, 1, 2, -3, 4, 5, -6])
        self.check(SEVEN, points(), told(SEVEN))
        self.check([(1, 1), (1, 1)], points(), [2, 1, 1, 1, 1])


class Box(CallCase):
    def test_least_and_greatest(self):
        self.check(THREE, box(), [0, -3, -6, 5, 4])
        self.check([(4, -5)], box(), [0, 4, -5, 4, -5])
        self.check([(-4, -5), (-6, -2)], box(), [0, -6, -5, -4, -2])
        self.check([(LIMIT, -LIMIT), (-LIMIT, LIMIT)], box(), [0, -LIMIT, -LIMIT, LIMIT, LIMIT])

    def test_without_points(self):
        self.refuse([], box(), -5)


class Half(CallCase):
    def test_width_and_height(self):
        self.check(THREE, half(), [18])
        self.check([(4, -5)], half(), [0])
        self.check([(4, -5), (4, -5)], half(), [0])
        self.check([(10, 3), (40, 3)], half(), [30])
        self.check([(10, 3), (10, -4)], half(), [7])
        self.check([(LIMIT, -LIMIT), (-LIMIT, LIMIT)], half(), [4 * LIMIT])

    def test_without_points(self):
        self.check([], half(), [0])


class Dist(CallCase):
    def test_of_two_points(self):
        self.check(THREE, dist(0, 1), [6])
        self.check(THREE, dist(1, 0), [6])
        self.check(THREE, dist(0, 2), [12])
        self.check(THREE, dist(2, 1), [18])
        self.check(SEVEN, dist(0, 6), [66])
        self.check([(LIMIT, -LIMIT), (-LIMIT, LIMIT)], dist(0, 1), [4 * LIMIT])

    def test_of_a_point_and_itself(self):
        for i in range(3):
            self.check(THREE, dist(i, i), [0])

    def test_of_two_at_one_place(self):
        self.check([(3, 3), (3, 3)], dist(0, 1), [0])

    def test_no_such_point(self):
        for i in [-1, -3, 3, 6, 7, FAR, -FAR]:
            self.refuse(THREE, dist(i, 0), -3)
            self.refuse(THREE, dist(0, i), -3)
            self.refuse(THREE, dist(i, i), -3)
        self.refuse(SEVEN, dist(6, 7), -3)
        self.refuse(SEVEN, dist(-1, 6), -3)
        self.refuse([], dist(0, 0), -3)


def joined(taken, i, j):
    """Tells whether the pairs taken lead from i to j, by a walk along them."""
    reached = [i]
    for here in reached:
        for pair in taken:
            if here in pair:
                there = sum(pair) - here
                if there not in reached:
                    reached.append(there)
    return j in reached


def span_by_the_words(places):
    def length(pair):
        return distance(places[pair[0]], places[pair[1]])

    taken = []
    for pair in sorted(itertools.combinations(range(len(places)), 2), key=length):
        if not joined(taken, *pair):
            taken.append(pair)
    return [sum(map(length, taken)), len(taken)] + [i for pair in taken for i in pair]


class Span(CallCase):
    def test_pairs_in_the_order_taken(self):
        self.check(THREE, span(), [18, 2, 0, 1, 0, 2])
        self.check([(0, 0), (100, 0), (3, 0), (90, 0)], span(), [100, 3, 0, 2, 1, 3, 2, 3])

    def test_with_no_point_and_with_one(self):
        self.check([], span(), [0, 0])
        self.check([(7, 8)], span(), [0, 0])

    def test_several_at_one_place(self):
        self.check([(7, 8), (7, 8)], span(), [0, 1, 0, 1])
        self.check([(7, 8)] * 4, span(), [0, 3, 0, 1, 0, 2, 0, 3])
        self.check([(7, 8), (0, 0), (7, 8), (0, 0)], span(), [15, 3, 0, 2, 1, 3, 0, 1])

    def test_of_one_distance_the_least_i_then_the_least_j(self):
        self.check([(0, 0), (2, 0), (2, 2), (0, 2)], span(), [6, 3, 0, 1, 0, 3, 1, 2])
        self.check([(0, 0), (1, 0), (2, 0), (3, 0)], span(), [3, 3, 0, 1, 1, 2, 2, 3])
        self.check([(1, 0), (0, 1), (-1, 0), (0, -1)], span(), [6, 3, 0, 1, 0, 2, 0, 3])
        self.check([(5, 0), (0, 0), (9, 0), (4, 0), (8, 0)], span(), [9, 4, 0, 3, 2, 4, 0, 4, 1, 3])

    def test_joined_through_others_is_not_taken(self):
        self.check([(0, 0), (1, 0), (1, 1), (0, 2)], span(), [4, 3, 0, 1, 1, 2, 0, 3])

    def test_seven_points_far_apart(self):
        far = [(LIMIT, LIMIT), (-LIMIT, LIMIT), (LIMIT, -LIMIT), (-LIMIT, -LIMIT), (0, 0), (LIMIT, 0), (0, LIMIT)]
        self.check(far, span(), [7 * LIMIT, 6, 0, 5, 0, 6, 1, 6, 2, 5, 4, 5, 1, 3])

    def test_against_the_words(self):
        for places in scattered(12, range(8), [1, 2, 4, 50], 12):
            self.check(places, span(), span_by_the_words(places))


if __name__ == "__main__":
    unittest.main()
