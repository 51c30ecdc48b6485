"""The calls on up to sixteen senders, told and answered as one list of whole numbers."""

from piecelines.calls import answer_call
from piecelines.desk import Desk

# Of each call: how many whole numbers it has, then how many rows.
SHAPES = {
    0: (0, 0),
    1: (1, 1),
    2: (2, 1),
    3: (1, 0),
    4: (1, 0),
    5: (1, 0),
    6: (2, 0),
    7: (1, 0),
    8: (0, 0),
    9: (2, 0),
    10: (1, 0),
    11: (4, 0),
    12: (1, 1),
    13: (1, 0),
    14: (1, 0),
    15: (1, 0),
    16: (0, 1),
    17: (1, 1),
    18: (0, 1),
    19: (0, 2),
    20: (0, 2),
    21: (0, 0),
}


def answers(calls):
    desk = Desk()
    given = []
    at = 0
    while at < len(calls):
        shape = SHAPES[calls[at]]
        behind = at + 1 + shape[0]
        numbers = calls[at + 1:behind]
        rows = []
        while len(rows) < shape[1]:
            size = calls[behind]
            rows.append(calls[behind + 1:behind + 1 + size])
            behind += 1 + size
        answer = answer_call(calls[at], desk, numbers, rows)
        given.append(len(answer))
        given.extend(answer)
        at = behind
    return given
