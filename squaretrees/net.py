"""Answers a list of calls on the points of one net."""

from squaretrees.changes import Net, change
from squaretrees.questions import ask

LAST_CHANGE = 7

ARGUMENTS = {
    0: 0,
    1: 2,
    2: 1,
    3: 3,
    4: 2,
    5: 1,
    6: 0,
    7: 1,
    8: 0,
    9: 0,
    10: 0,
    11: 2,
    12: 0,
    13: 0,
    14: 0,
    15: 0,
    16: 0,
    17: 2,
    18: 1,
    19: 0,
    20: 0,
    21: 2,
    22: 1,
    23: 0,
    24: 0,
}


def answer_call(net, number, arguments):
    if number <= LAST_CHANGE:
        return change(net, number, arguments)
    return ask(net.points, number, arguments)


def answers(calls):
    net = Net()
    given = []
    start = 0
    while start < len(calls):
        number = calls[start]
        stop = start + 1 + ARGUMENTS[number]
        answer = answer_call(net, number, calls[start + 1:stop])
        given.append(len(answer))
        given.extend(answer)
        start = stop
    return given
