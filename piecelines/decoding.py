"""Bytes decoded to code points, and code points encoded."""

REPLACEMENT = 65533

# How the first byte narrows what may stand directly behind it.
LEAST_BEHIND = {224: 160, 240: 144}
GREATEST_BEHIND = {237: 159, 244: 143}

# What the first byte holds beside bits of the code point, by how many bytes stand behind it.
FIRST_BITS = (0, 192, 224, 240)


# The place of the first wrong stretch tells something only if there are marks.
class Decoded:
    def __init__(self, points):
        self.points = points
        self.marks = 0
        self.first_wrong = 0


# How many bytes a code point has by its first one; 0 if none begins with it.
def size_by_first(first):
    if first < 128:
        return 1
    if 194 <= first <= 223:
        return 2
    if 224 <= first <= 239:
        return 3
    if 240 <= first <= 244:
        return 4
    return 0


def is_right_behind(first, nth, byte):
    if nth > 1:
        return 128 <= byte <= 191
    return LEAST_BEHIND.get(first, 128) <= byte <= GREATEST_BEHIND.get(first, 191)


# The first byte counts too, even if it is wrong: it's always passed.
def how_many_right(row, at, size):
    right = 1
    while right < size and at + right < len(row) and is_right_behind(row[at], right, row[at + right]):
        right += 1
    return right


def put_together(row, at, size):
    if size == 1:
        return row[at]
    point = row[at] % (128 >> size)
    for nth in range(1, size):
        point = point * 64 + row[at + nth] % 64
    return point


def add_mark(decoded, at):
    if decoded.marks == 0:
        decoded.first_wrong = at
    decoded.marks += 1
    decoded.points.append(REPLACEMENT)


def decoded_utf8(row):
    decoded = Decoded([])
    at = 0
    while at < len(row):
        size = size_by_first(row[at])
        right = how_many_right(row, at, size)
        if right == size:
            decoded.points.append(put_together(row, at, size))
        else:
            add_mark(decoded, at)
        at += right
    return decoded


def decoded_bytes(row):
    return Decoded(list(row))


def is_point(number):
    return 0 <= number <= 1114111 and not 55296 <= number <= 57343


# How many bytes stand behind the first one.
def size_behind(point):
    if point < 128:
        return 0
    if point < 2048:
        return 1
    if point < 65536:
        return 2
    return 3


def encoded_point(point):
    behind = size_behind(point)
    row = [FIRST_BITS[behind] + (point >> (6 * behind))]
    for at in range(behind):
        row.append(128 + (point >> (6 * (behind - 1 - at))) % 64)
    return row


def encoded_utf8(points):
    row = []
    for point in points:
        row.extend(encoded_point(point))
    return row
