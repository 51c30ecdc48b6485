"""Bytes decoded to code points."""

REPLACEMENT = 65533

# How the first byte narrows what may stand directly behind it.
LEAST_BEHIND = {224: 160, 240: 144}
GREATEST_BEHIND = {237: 159, 244: 143}


class Decoded:
    def __init__(self, points, marks):
        self.points = points
        self.marks = marks


# How many bytes a code point has by its first one; 0 if none begins with it.
def size_by_first(first):
    if first < 128:
        return 1
    if 194 <= first <= 223:
        return 2
    if 224 <= first <= 239:
        return 3
    if 240 <= first <= 244:
        return 4
    return 0


def is_right_behind(first, nth, byte):
    if nth > 1:
        return 128 <= byte <= 191
    return LEAST_BEHIND.get(first, 128) <= byte <= GREATEST_BEHIND.get(first, 191)


# The first byte counts too, even if it is wrong: it's always passed.
def how_many_right(row, at, size):
    right = 1
    while right < size and at + right < len(row) and is_right_behind(row[at], right, row[at + right]):
        right += 1
    return right


def put_together(row, at, size):
    if size == 1:
        return row[at]
    point = row[at] % (128 >> size)
    for nth in range(1, size):
        point = point * 64 + row[at + nth] % 64
    return point


def decoded_utf8(row):
    points = []
    marks = 0
    at = 0
    while at < len(row):
        size = size_by_first(row[at])
        right = how_many_right(row, at, size)
        if right == size:
            points.append(put_together(row, at, size))
        else:
            points.append(REPLACEMENT)
            marks += 1
        at += right
    return Decoded(points, marks)


def decoded_bytes(row):
    return Decoded(list(row), 0)
