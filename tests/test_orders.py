"""The calls 23 and 24: the shortest orders in which the points are visited."""

import itertools
import unittest

from tests.support import LIMIT, CallCase, chain, distance, ring, scattered

SQUARE = [(0, 0), (2, 0), (0, 2), (2, 2)]
SEVEN = [(0, 0), (7, 11), (-5, 8), (12, -3), (4, -9), (-8, -4), (15, 6)]
CORNERS = [(LIMIT, LIMIT), (-LIMIT, -LIMIT), (-LIMIT, LIMIT), (LIMIT, -LIMIT)]


def first_shortest(places, orders, back):
    """Of all orders the first of those with the least sum; they come in order, and the first least one is kept."""
    def length(order):
        stops = order + order[:1] if back else order
        return sum(distance(places[i], places[j]) for i, j in zip(stops, stops[1:]))

    best = min(orders, key=length)
    return [length(best), len(best)] + list(best)


def chain_by_the_words(places):
    return first_shortest(places, itertools.permutations(range(len(places))), False)


def ring_by_the_words(places):
    rest = itertools.permutations(range(1, len(places)))
    return first_shortest(places, [(0,) + order for order in rest], True)


class Chain(CallCase):
    def test_no_point_one_and_two(self):
        self.check([], chain(), [0, 0])
        self.check([(3, 4)], chain(), [0, 1, 0])
        self.check([(3, 4), (0, 0)], chain(), [7, 2, 0, 1])

    def test_the_shortest_order(self):
        self.check([(5, 0), (0, 0), (9, 0)], chain(), [9, 3, 1, 0, 2])
        self.check([(0, 5), (0, 9), (0, 0), (0, 7)], chain(), [9, 4, 1, 3, 0, 2])
        self.check(SEVEN, chain(), [79, 7, 1, 6, 3, 4, 0, 5, 2])

    def test_of_several_equally_short_the_first(self):
        self.check(SQUARE, chain(), [6, 4, 0, 1, 3, 2])
        self.check([(1, 0), (0, 1), (-1, 0), (0, -1)], chain(), [6, 4, 0, 1, 2, 3])
        self.check([(0, 0), (1, 0), (2, 0), (3, 0)], chain(), [3, 4, 0, 1, 2, 3])
        self.check([(3, 0), (2, 0), (0, 0), (1, 0)], chain(), [3, 4, 0, 1, 3, 2])

    def test_several_at_one_place(self):
        self.check([(3, 4)] * 7, chain(), [0, 7, 0, 1, 2, 3, 4, 5, 6])
        self.check([(3, 4), (0, 0), (3, 4), (0, 0)], chain(), [7, 4, 0, 2, 1, 3])
        self.check([(5, 0), (0, 0), (9, 0), (0, 0), (9, 0)], chain(), [9, 5, 1, 3, 0, 2, 4])

    def test_the_edges_of_the_range(self):
        self.check(CORNERS, chain(), [6 * LIMIT, 4, 0, 2, 1, 3])

    def test_against_the_words(self):
        for places in scattered(23, range(7), [1, 3, 30], 5):
            self.check(places, chain(), chain_by_the_words(places))
        for places in scattered(25, [7], [1, 2, 4, LIMIT], 2):
            self.check(places, chain(), chain_by_the_words(places))


class Ring(CallCase):
    def test_no_point_one_and_two(self):
        self.check([], ring(), [0, 0])
        self.check([(3, 4)], ring(), [0, 1, 0])
        self.check([(3, 4), (0, 0)], ring(), [14, 2, 0, 1])

    def test_the_shortest_order(self):
        self.check([(5, 0), (0, 0), (9, 0)], ring(), [18, 3, 0, 1, 2])
        self.check([(0, 0), (2, 2), (2, 0), (0, 2)], ring(), [8, 4, 0, 2, 1, 3])
        self.check(SEVEN, ring(), ring_by_the_words(SEVEN))

    def test_of_several_equally_short_the_first(self):
        self.check(SQUARE, ring(), [8, 4, 0, 1, 3, 2])
        self.check([(0, 0), (1, 0), (2, 0), (3, 0)], ring(), [6, 4, 0, 1, 2, 3])
        self.check([(0, 0), (3, 0), (1, 0), (2, 0)], ring(), [6, 4, 0, 1, 3, 2])

    def test_several_at_one_place(self):
        self.check([(3, 4)] * 7, ring(), [0, 7, 0, 1, 2, 3, 4, 5, 6])
        self.check([(3, 4), (0, 0), (3, 4), (0, 0)], ring(), [14, 4, 0, 1, 3, 2])

    def test_it_begins_with_point_0(self):
        self.check([(5, 0), (0, 0), (9, 0), (0, 9), (9, 9)], ring(), [36, 5, 0, 1, 3, 4, 2])

    def test_the_edges_of_the_range(self):
        self.check(CORNERS, ring(), [8 * LIMIT, 4, 0, 2, 1, 3])

    def test_against_the_words(self):
        for places in scattered(24, range(1, 8), [1, 3, 30, LIMIT], 5):
            self.check(places, ring(), ring_by_the_words(places))


if __name__ == "__main__":
    unittest.main()
