"""What the tests share: calls by name, and answers taken apart call by call."""

import random
import unittest

from squaretrees.net import answers

LIMIT = 10 ** 9
FAR = 10 ** 18


def begin():
    return [0]


def add(x, y):
    return [1, x, y]


def remove(i):
    return [2, i]


def move(i, x, y):
    return [3, i, x, y]


def shift(dx, dy):
    return [4, dx, dy]


def turn(k):
    return [5, k]


def flip():
    return [6]


def scale(n):
    return [7, n]


def points():
    return [8]


def box():
    return [9]


def half():
    return [10]


def dist(i, j):
    return [11, i, j]


def span():
    return [12]


def steiner():
    return [13]


def tree():
    return [14]


def joints():
    return [15]


def bends():
    return [16]


def with_point(x, y):
    return [17, x, y]


def without_point(i):
    return [18, i]


def ratio():
    return [19]


def median():
    return [20]


def star(x, y):
    return [21, x, y]


def trunk(d):
    return [22, d]


def chain():
    return [23]


def ring():
    return [24]


def ask(calls):
    """Answers the calls as one list of numbers, and gives back a list of answers, one a call."""
    given = answers([number for call in calls for number in call])
    parts = []
    start = 0
    while start < len(given):
        stop = start + 1 + given[start]
        parts.append(given[start + 1:stop])
        start = stop
    return parts


def adds(places):
    return [add(x, y) for x, y in places]


def distance(here, there):
    return abs(here[0] - there[0]) + abs(here[1] - there[1])


def scattered(seed, sizes, reaches, times):
    """Lists of places with chance in them, the same ones at each run: for each size and reach so many times."""
    source = random.Random(seed)
    for size in sizes:
        for reach in reaches:
            for again in range(times):
                yield [(source.randint(-reach, reach), source.randint(-reach, reach)) for i in range(size)]


def told(places):
    """What the call points answers where the points are at these places."""
    return [len(places)] + [number for place in places for number in place]


class CallCase(unittest.TestCase):
    def check(self, places, call, answer, after=None):
        """The call answers this with points at these places; behind it they are at the places `after`."""
        with self.subTest(places=places, call=call):
            parts = ask(adds(places) + [points(), call, points()])
            self.assertEqual(len(parts), len(places) + 3)
            self.assertEqual(parts[-3], told(places))
            self.assertEqual(parts[-2], answer)
            self.assertEqual(parts[-1], told(places if after is None else after))

    def refuse(self, places, call, number):
        """The call is refused by this number alone, and the points are what they were."""
        self.assertLess(number, 0)
        self.check(places, call, [number])
