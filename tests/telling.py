"""Tells calls to the program and parts its answers; drives the modules for what no call shows."""

from piecelines.frames import Held, end_held, take_byte
from piecelines.rules import read_rules
from piecelines.senders import answers


def row_of(told):
    """A row of numbers from a list, a bytes object or a text of ASCII."""
    return [ord(sign) for sign in told] if isinstance(told, str) else list(told)


class Telling:
    """One list of calls in the making; answers() does them all."""

    def __init__(self):
        self.calls = []

    def tell(self, call, numbers=(), rows=()):
        self.calls.append(call)
        self.calls.extend(numbers)
        for row in rows:
            self.calls.append(len(row))
            self.calls.extend(row)
        return self

    def clear(self):
        return self.tell(0)

    def open(self, sender, rules):
        return self.tell(1, [sender], [row_of(rules)])

    def feed(self, sender, place, told):
        return self.tell(2, [sender, place], [row_of(told)])

    def close(self, sender):
        return self.tell(3, [sender])

    def rest(self, sender):
        return self.tell(4, [sender])

    def next(self, sender):
        return self.tell(5, [sender])

    def take(self, sender, number):
        return self.tell(6, [sender, number])

    def save(self, sender):
        return self.tell(7, [sender])

    def cut(self):
        return self.tell(8)

    def cutsave(self, sender, number):
        return self.tell(9, [sender, number])

    def ack(self, sender):
        return self.tell(10, [sender])

    def answers(self):
        return parted(answers(self.calls))

    def last(self):
        return self.answers()[-1]


def parted(given):
    """The answers, one list for each call."""
    parts = []
    at = 0
    while at < len(given):
        parts.append(given[at + 1:at + 1 + given[at]])
        at += 1 + given[at]
    return parts


def feed_in_pieces(telling, sender, row, size, place=0):
    for at in range(0, len(row), size):
        telling.feed(sender, place + at, row[at:at + size])
    return telling


def records_of(rules, told, size=500, most=None):
    """Each record that a sender with these rules makes of the bytes, as next answers it."""
    row = row_of(told)
    telling = feed_in_pieces(Telling().open(0, rules), 0, row, size).close(0)
    given = telling.answers()
    done = sum(answer[1] for answer in given[1:-1]) + given[-1][0]
    for number in range(done if most is None else min(done, most)):
        telling.next(0).take(0, number + 1)
    return [answer for answer in telling.answers()[len(given):] if len(answer) > 1]


def frames_of(rules, told):
    """(begin, upto, ended, fate, lost, odd, kept) of each frame, with a close behind the last byte."""
    read = read_rules(row_of(rules))
    assert read.fault == 0, rules
    held = Held(0)
    out = []
    row = row_of(told)
    for place, byte in enumerate(row):
        take_byte(read, held, place, byte, out)
    end_held(read, held, len(row), out)
    return [(f.begin, f.upto, f.ended, f.fate, f.lost, f.odd, bytes(f.kept)) for f in out]
