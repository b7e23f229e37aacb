"""The calls 0 to 7, which change the points."""

import unittest

from tests.support import (
    FAR, LIMIT, CallCase, add, adds, ask, begin, box, flip, half, move, points, remove, scale, shift, span, told, turn,
)

THREE = [(1, 2), (-3, 4), (5, -6)]
SEVEN = [(0, 0), (1, 10), (2, 20), (3, 30), (4, 40), (5, 50), (6, 60)]
CORNERS = [(LIMIT, LIMIT), (-LIMIT, LIMIT), (LIMIT, -LIMIT), (-LIMIT, -LIMIT)]
BEYOND = [
    (LIMIT + 1, 0), (-LIMIT - 1, 0), (0, LIMIT + 1), (0, -LIMIT - 1),
    (FAR, 0), (-FAR, 0), (0, FAR), (0, -FAR), (FAR, -FAR), (LIMIT, LIMIT + 1), (LIMIT + 1, LIMIT),
]
NOT_NUMBERS_OF_THREE = [-1, -2, -3, -7, 3, 4, 6, 7, 8, FAR, -FAR]


class Begin(CallCase):
    def test_takes_all_points_away(self):
        self.check([], begin(), [0], [])
        self.check(THREE, begin(), [0], [])
        self.check(SEVEN, begin(), [0], [])

    def test_numbers_start_anew(self):
        parts = ask(adds(SEVEN) + [begin(), add(8, 9), points()])
        self.assertEqual(parts[-3:], [[0], [0], [1, 8, 9]])


class Add(CallCase):
    def test_answers_the_new_number(self):
        self.check([], add(7, -8), [0], [(7, -8)])
        self.check(THREE, add(7, -8), [3], THREE + [(7, -8)])

    def test_several_at_one_place(self):
        self.check([(1, 2), (1, 2)], add(1, 2), [2], [(1, 2), (1, 2), (1, 2)])

    def test_the_seventh_and_the_eighth(self):
        self.check(SEVEN[:6], add(9, 9), [6], SEVEN[:6] + [(9, 9)])
        self.refuse(SEVEN, add(9, 9), -2)

    def test_the_edges_of_the_range(self):
        for x, y in CORNERS:
            self.check([], add(x, y), [0], [(x, y)])
        for x, y in BEYOND:
            self.refuse([], add(x, y), -1)
            self.refuse(THREE, add(x, y), -1)

    def test_out_of_range_stands_before_no_room(self):
        for x, y in BEYOND:
            self.refuse(SEVEN, add(x, y), -1)

    def test_room_again_behind_remove(self):
        parts = ask(adds(SEVEN) + [add(9, 9), remove(0), add(9, 9), add(9, 9)])
        self.assertEqual(parts[-4:], [[-2], [6], [6], [-2]])


class Remove(CallCase):
    def test_those_behind_are_numbered_one_less(self):
        self.check(THREE, remove(0), [2], THREE[1:])
        self.check(THREE, remove(1), [2], [THREE[0], THREE[2]])
        self.check(THREE, remove(2), [2], THREE[:2])
        self.check(SEVEN, remove(3), [6], SEVEN[:3] + SEVEN[4:])
        self.check(SEVEN, remove(6), [6], SEVEN[:6])

    def test_the_last_one(self):
        self.check([(1, 1)], remove(0), [0], [])

    def test_one_of_several_at_one_place(self):
        self.check([(1, 1), (2, 2), (1, 1)], remove(2), [2], [(1, 1), (2, 2)])

    def test_no_such_point(self):
        for i in NOT_NUMBERS_OF_THREE:
            self.refuse(THREE, remove(i), -3)
        for i in [-1, 7, FAR, -FAR]:
            self.refuse(SEVEN, remove(i), -3)
        self.refuse([], remove(0), -3)
        self.refuse([], remove(-1), -3)


class Move(CallCase):
    def test_the_point_is_there_now(self):
        self.check(THREE, move(0, 8, 9), [0], [(8, 9), THREE[1], THREE[2]])
        self.check(THREE, move(1, 8, 9), [0], [THREE[0], (8, 9), THREE[2]])
        self.check(THREE, move(2, 8, 9), [0], [THREE[0], THREE[1], (8, 9)])
        self.check(SEVEN, move(6, 8, 9), [0], SEVEN[:6] + [(8, 9)])

    def test_where_it_is(self):
        self.check(THREE, move(1, -3, 4), [0], THREE)

    def test_the_edges_of_the_range(self):
        for x, y in CORNERS:
            self.check(THREE, move(1, x, y), [0], [THREE[0], (x, y), THREE[2]])
        for x, y in BEYOND:
            self.refuse(THREE, move(1, x, y), -1)

    def test_no_such_point(self):
        for i in NOT_NUMBERS_OF_THREE:
            self.refuse(THREE, move(i, 8, 9), -3)
        self.refuse(SEVEN, move(7, 8, 9), -3)
        self.refuse(SEVEN, move(-1, 8, 9), -3)
        self.refuse([], move(0, 8, 9), -3)

    def test_out_of_range_stands_before_no_such_point(self):
        for x, y in BEYOND:
            self.refuse(THREE, move(3, x, y), -1)
            self.refuse([], move(-1, x, y), -1)


class Shift(CallCase):
    def test_each_x_and_y(self):
        self.check(THREE, shift(10, -20), [0], [(11, -18), (7, -16), (15, -26)])
        self.check(THREE, shift(0, 0), [0], THREE)

    def test_without_points_any_step_will_do(self):
        self.check([], shift(FAR, -FAR), [0], [])

    def test_up_to_the_edge_and_one_beyond(self):
        places = [(0, 0), (5, 7), (-11, -13)]
        self.check(places, shift(LIMIT - 5, 0), [0], [(x + LIMIT - 5, y) for x, y in places])
        self.check(places, shift(0, LIMIT - 7), [0], [(x, y + LIMIT - 7) for x, y in places])
        self.check(places, shift(11 - LIMIT, 0), [0], [(x + 11 - LIMIT, y) for x, y in places])
        self.check(places, shift(0, 13 - LIMIT), [0], [(x, y + 13 - LIMIT) for x, y in places])
        self.refuse(places, shift(LIMIT - 4, 0), -1)
        self.refuse(places, shift(0, LIMIT - 6), -1)
        self.refuse(places, shift(10 - LIMIT, 0), -1)
        self.refuse(places, shift(0, 12 - LIMIT), -1)

    def test_one_of_several_out_of_range(self):
        for which in range(3):
            places = [(0, 0), (0, 0), (0, 0)]
            places[which] = (LIMIT, 0)
            self.refuse(places, shift(1, 0), -1)
            places[which] = (0, -LIMIT)
            self.refuse(places, shift(0, -1), -1)

    def test_from_edge_to_edge(self):
        self.check([(-LIMIT, LIMIT)], shift(2 * LIMIT, -2 * LIMIT), [0], [(LIMIT, -LIMIT)])

    def test_the_farthest_steps(self):
        for dx, dy in [(FAR, 0), (-FAR, 0), (0, FAR), (0, -FAR), (FAR, -FAR)]:
            self.refuse(THREE, shift(dx, dy), -1)


class Turn(CallCase):
    def test_by_the_remainder(self):
        quarters = [
            THREE,
            [(-2, 1), (-4, -3), (6, 5)],
            [(-1, -2), (3, -4), (-5, 6)],
            [(2, -1), (4, 3), (-6, -5)],
        ]
        for k in range(-9, 10):
            self.check(THREE, turn(k), [0], quarters[k % 4])
        self.check(THREE, turn(-1), [0], quarters[3])
        self.check(THREE, turn(-2), [0], quarters[2])
        self.check(THREE, turn(-3), [0], quarters[1])

    def test_the_farthest_k(self):
        self.check([(1, 2)], turn(FAR), [0], [(1, 2)])
        self.check([(1, 2)], turn(-FAR), [0], [(1, 2)])
        self.check([(1, 2)], turn(FAR - 1), [0], [(2, -1)])
        self.check([(1, 2)], turn(1 - FAR), [0], [(-2, 1)])

    def test_edges_stay_in_range(self):
        self.check(CORNERS, turn(1), [0], [(-y, x) for x, y in CORNERS])

    def test_without_points(self):
        self.check([], turn(1), [0], [])


class Flip(CallCase):
    def test_each_x_changes_its_sign(self):
        self.check(THREE, flip(), [0], [(-1, 2), (3, 4), (-5, -6)])
        self.check([(0, 0)], flip(), [0], [(0, 0)])
        self.check(CORNERS, flip(), [0], [(-x, y) for x, y in CORNERS])

    def test_without_points(self):
        self.check([], flip(), [0], [])


class Scale(CallCase):
    def test_n_times(self):
        self.check(THREE, scale(1), [0], THREE)
        self.check(THREE, scale(3), [0], [(3, 6), (-9, 12), (15, -18)])
        self.check(THREE, scale(1000), [0], [(1000, 2000), (-3000, 4000), (5000, -6000)])

    def test_n_out_of_its_range(self):
        for n in [0, -1, -2, -1000, 1001, 1002, 100000]:
            self.refuse(THREE, scale(n), -4)

    def test_up_to_the_edge_and_one_beyond(self):
        top = LIMIT // 1000
        for x, y in [(top, 0), (-top, 0), (0, top), (0, -top)]:
            self.check([(1, 1), (x, y)], scale(1000), [0], [(1000, 1000), (1000 * x, 1000 * y)])
        for x, y in [(top + 1, 0), (-top - 1, 0), (0, top + 1), (0, -top - 1)]:
            self.refuse([(1, 1), (x, y), (2, 2)], scale(1000), -1)
        self.check([(LIMIT // 2, -LIMIT // 2)], scale(2), [0], [(LIMIT, -LIMIT)])
        self.refuse([(LIMIT // 2 + 1, 0)], scale(2), -1)

    def test_points_at_zero_alone(self):
        zeros = [(0, 0), (0, 0)]
        self.check(zeros, scale(1000), [0], zeros)
        for n in [0, -1, 1001, FAR, -FAR]:
            self.refuse(zeros, scale(n), -4)

    def test_without_points(self):
        self.check([], scale(1), [0], [])
        self.check([], scale(1000), [0], [])
        for n in [0, -1, 1001, FAR, -FAR]:
            self.refuse([], scale(n), -4)

    def test_out_of_range_stands_before_a_bad_number(self):
        for n in [FAR, -FAR, LIMIT + 1, -LIMIT - 1]:
            self.refuse([(0, 0), (1, 0)], scale(n), -1)
            self.refuse([(0, -1), (0, 0)], scale(n), -1)
        self.refuse([(LIMIT, 0)], scale(-2), -1)
        self.refuse([(LIMIT // 1000, 0)], scale(1001), -1)

    def test_n_as_it_is_told(self):
        self.refuse([(LIMIT, -LIMIT)], scale(0), -4)
        self.refuse([(LIMIT, -LIMIT)], scale(-1), -4)
        self.refuse([(1, 0)], scale(LIMIT), -4)
        self.refuse([(1, 0)], scale(-LIMIT), -4)


class Together(CallCase):
    def test_several_calls_in_one_list(self):
        parts = ask([
            add(1, 2), add(3, 4), shift(1, 1), turn(1), flip(), scale(2), points(),
            move(0, 0, 0), remove(1), points(), box(), half(), span(), begin(), points(),
        ])
        self.assertEqual(parts, [
            [0], [1], [0], [0], [0], [0], told([(6, 4), (10, 8)]),
            [0], [1], [1, 0, 0], [0, 0, 0, 0, 0], [0], [0, 0], [0], [0],
        ])

    def test_what_comes_behind_a_refusal_goes_on(self):
        parts = ask([add(1, 2), add(FAR, 0), remove(4), scale(0), shift(LIMIT, 0), box(), add(3, 4), points()])
        self.assertEqual(parts, [[0], [-1], [-3], [-4], [-1], [0, 1, 2, 1, 2], [1], told([(1, 2), (3, 4)])])


if __name__ == "__main__":
    unittest.main()
