"""The calls 20 to 22: the middle point, sums of distances, trunks with branches."""

import unittest

from tests.support import FAR, LIMIT, CallCase, distance, median, scattered, star, trunk

CORNERS = [(LIMIT, LIMIT), (-LIMIT, LIMIT), (LIMIT, -LIMIT), (-LIMIT, -LIMIT)]
BEYOND = [(LIMIT + 1, 0), (-LIMIT - 1, 0), (0, LIMIT + 1), (0, -LIMIT - 1), (FAR, 0), (0, -FAR), (-FAR, FAR)]


class Median(CallCase):
    def test_an_odd_number(self):
        self.check([(3, 4)], median(), [0, 3, 4])
        self.check([(0, 9), (10, 1), (4, 2)], median(), [18, 4, 2])
        self.check([(5, 0), (1, 7), (9, 3), (2, 2), (3, 8)], median(), [24, 3, 3])

    def test_an_even_number(self):
        self.check([(10, 4), (0, 9)], median(), [15, 0, 4])
        self.check([(10, 4), (0, 9), (7, 1), (-2, 3)], median(), [28, 0, 3])
        self.check([(-1, -1), (-2, -2), (-3, -3), (-4, -4), (-5, -5), (-6, -6)], median(), [18, -4, -4])

    def test_each_points_x_counts(self):
        self.check([(0, 0), (0, 0), (0, 0), (8, 5), (9, 6)], median(), [28, 0, 0])
        self.check([(0, 0), (8, 5), (9, 6), (8, 5)], median(), [15, 8, 5])
        self.check([(3, 4)] * 7, median(), [0, 3, 4])

    def test_the_middle_needs_no_point_there(self):
        self.check([(0, 10), (10, 0), (5, 20)], median(), [30, 5, 10])
        self.check([(0, 1), (1, 2), (2, 0)], median(), [4, 1, 1])

    def test_the_edges_of_the_range(self):
        self.check(CORNERS, median(), [8 * LIMIT, -LIMIT, -LIMIT])
        self.check(CORNERS[:3], median(), [4 * LIMIT, LIMIT, LIMIT])

    def test_without_points(self):
        self.refuse([], median(), -5)


class Star(CallCase):
    def test_the_sum_of_all_distances(self):
        self.check([(0, 0)], star(3, -4), [7])
        self.check([(0, 0), (3, -4), (10, 10)], star(3, -4), [28])
        self.check([(1, 1)] * 7, star(0, 0), [14])

    def test_without_points(self):
        self.check([], star(0, 0), [0])
        self.check([], star(LIMIT, -LIMIT), [0])

    def test_the_edges_of_the_range(self):
        for x, y in CORNERS:
            self.check([(0, 0), (x, y)], star(x, y), [2 * LIMIT])
            self.check([(-x, -y)] * 7, star(x, y), [28 * LIMIT])
        for x, y in BEYOND:
            self.refuse([], star(x, y), -1)
            self.refuse([(0, 0), (1, 1)], star(x, y), -1)
            self.refuse([(0, 0)] * 7, star(x, y), -1)

    def test_against_the_words(self):
        for places in scattered(21, range(1, 8), [5, LIMIT], 3):
            self.check(places[1:], star(*places[0]), [sum(distance(place, places[0]) for place in places)])


def trunk_by_the_words(places):
    xs = [x for x, y in places]
    found = []
    for t in [y for x, y in places]:
        length = max(xs) - min(xs)
        for column in set(xs):
            highest = max(y for x, y in places if x == column)
            lowest = min(y for x, y in places if x == column)
            if highest > t:
                length += highest - t
            if lowest < t:
                length += t - lowest
        found.append((length, t))
    return list(min(found))


class Trunk(CallCase):
    def test_points_below_above_and_on_it(self):
        self.check([(0, 0), (5, 4), (10, -3)], trunk(0), [17, 0])
        self.check([(0, 0), (4, 5), (-3, 10)], trunk(1), [17, 0])
        self.check([(0, 3), (2, 0), (4, 9), (6, 3), (8, 3)], trunk(0), [17, 3])
        self.check([(0, 3), (2, 0), (4, 9), (6, 3), (8, 3)], trunk(1), [19, 2])

    def test_of_several_equally_short_the_least(self):
        self.check([(0, 7), (5, 2)], trunk(0), [10, 2])
        self.check([(7, 0), (2, 5)], trunk(1), [10, 2])
        self.check([(0, 9), (1, -4), (2, 5), (3, 0)], trunk(0), [21, 0])
        self.check([(0, 0), (2, 0), (0, 2), (2, 2)], trunk(0), [6, 0])
        self.check([(0, 0), (2, 0), (0, 2), (2, 2)], trunk(1), [6, 0])

    def test_several_points_of_one_x(self):
        self.check([(0, 9), (0, 5), (0, -1), (6, 5)], trunk(0), [16, 5])
        self.check([(0, 9), (0, 7), (6, 0)], trunk(0), [15, 0])
        self.check([(0, 9), (0, 7), (6, 0), (12, 0)], trunk(0), [21, 0])
        self.check([(0, -9), (0, -7), (6, 0), (12, 0)], trunk(0), [21, 0])
        self.check([(0, 0), (5, 0), (5, 10), (5, 20), (9, 10)], trunk(1), [29, 5])

    def test_one_place(self):
        for d in [0, 1]:
            self.check([(3, 4)], trunk(d), [0, 4 - d])
            self.check([(3, 4)] * 7, trunk(d), [0, 4 - d])

    def test_on_one_line(self):
        self.check([(5, 3), (-2, 3), (9, 3)], trunk(0), [11, 3])
        self.check([(5, 3), (-2, 3), (9, 3)], trunk(1), [11, -2])
        self.check([(3, 5), (3, -2), (3, 9)], trunk(0), [11, -2])
        self.check([(3, 5), (3, -2), (3, 9)], trunk(1), [11, 3])

    def test_the_edges_of_the_range(self):
        for d in [0, 1]:
            self.check(CORNERS, trunk(d), [6 * LIMIT, -LIMIT])
            self.check(CORNERS + [(0, 0)], trunk(d), [6 * LIMIT, 0])

    def test_d_out_of_its_range(self):
        for d in [-1, 2, 3, -2, FAR, -FAR]:
            self.refuse([(0, 0), (5, 4)], trunk(d), -4)

    def test_without_points(self):
        self.refuse([], trunk(0), -5)
        self.refuse([], trunk(1), -5)

    def test_a_bad_number_stands_before_no_point(self):
        for d in [-1, 2, FAR, -FAR]:
            self.refuse([], trunk(d), -4)

    def test_against_the_words(self):
        for places in scattered(22, range(1, 8), [1, 3, 9, LIMIT], 6):
            self.check(places, trunk(0), trunk_by_the_words(places))
            self.check(places, trunk(1), trunk_by_the_words([(y, x) for x, y in places]))


if __name__ == "__main__":
    unittest.main()
