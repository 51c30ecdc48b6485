"""Tells calls to the program and parts its answers."""

from piecelines.frames import whole_frames
from piecelines.rules import read_rules
from piecelines.senders import answers


def row_of(told):
    """A row of numbers from a list, a bytes object or a text of ASCII."""
    return [ord(sign) for sign in told] if isinstance(told, str) else list(told)


class Telling:
    """One list of calls in the making; answers() does them all."""

    def __init__(self):
        self.calls = []

    def tell(self, call, numbers=(), rows=()):
        self.calls.append(call)
        self.calls.extend(numbers)
        for row in rows:
            self.calls.append(len(row))
            self.calls.extend(row)
        return self

    def told_behind(self, other):
        self.calls = list(other.calls)
        return self

    def clear(self):
        return self.tell(0)

    def open(self, sender, rules):
        return self.tell(1, [sender], [row_of(rules)])

    def feed(self, sender, place, told):
        return self.tell(2, [sender, place], [row_of(told)])

    def close(self, sender):
        return self.tell(3, [sender])

    def rest(self, sender):
        return self.tell(4, [sender])

    def next(self, sender):
        return self.tell(5, [sender])

    def take(self, sender, number):
        return self.tell(6, [sender, number])

    def save(self, sender):
        return self.tell(7, [sender])

    def cut(self):
        return self.tell(8)

    def cutsave(self, sender, number):
        return self.tell(9, [sender, number])

    def ack(self, sender):
        return self.tell(10, [sender])

    def slot(self, sender, slot, place, size):
        return self.tell(11, [sender, slot, place, size])

    def readslot(self, sender, text):
        return self.tell(12, [sender], [row_of(text)])

    def held(self, sender):
        return self.tell(13, [sender])

    def sums(self, sender):
        return self.tell(14, [sender])

    def rule(self, sender):
        return self.tell(15, [sender])

    def try_rules(self, rules):
        return self.tell(16, [], [row_of(rules)])

    def decode(self, mode, told):
        return self.tell(17, [mode], [row_of(told)])

    def encode(self, points):
        return self.tell(18, [], [row_of(points)])

    def frames(self, rules, told):
        return self.tell(19, [], [row_of(rules), row_of(told)])

    def batch(self, rules, told):
        return self.tell(20, [], [row_of(rules), row_of(told)])

    def counts(self):
        return self.tell(21)

    def answers(self):
        return parted(answers(self.calls))

    def last(self):
        return self.answers()[-1]


def parted(given):
    """The answers, one list for each call."""
    parts = []
    at = 0
    while at < len(given):
        parts.append(given[at + 1:at + 1 + given[at]])
        at += 1 + given[at]
    return parts


def rows_in(answer, at):
    """The rows of an answer, of which the first one's length stands at the place."""
    rows = []
    while at < len(answer):
        rows.append(answer[at + 1:at + 1 + answer[at]])
        at += 1 + answer[at]
    return rows


def text_in(answer, at):
    """The one row of an answer, as a text."""
    row, = rows_in(answer, at)
    return bytes(row).decode("ascii")


def slot_text(telling, sender, slot):
    """The whole text of a slot behind the calls told so far, which stay as they are."""
    size = Telling().told_behind(telling).slot(sender, slot, 0, 0).last()[0]
    text = ""
    while len(text) < size:
        text += text_in(Telling().told_behind(telling).slot(sender, slot, len(text), 500).last(), 1)
    return text


def feed_in_pieces(telling, sender, row, size, place=0):
    for at in range(0, len(row), size):
        telling.feed(sender, place + at, row[at:at + size])
    return telling


def records_of(rules, told, size=500, most=None):
    """Each record that a sender with these rules makes of the bytes, as next answers it."""
    row = row_of(told)
    telling = feed_in_pieces(Telling().open(0, rules), 0, row, size).close(0)
    given = telling.answers()
    done = sum(answer[1] for answer in given[1:-1]) + given[-1][0]
    for number in range(done if most is None else min(done, most)):
        telling.next(0).take(0, number + 1)
    return [answer for answer in telling.answers()[len(given):] if len(answer) > 1]


def frames_of(rules, told):
    """(begin, upto, ended, fate, lost, odd, kept) of each frame, with a close behind the last byte; of any length."""
    read = read_rules(row_of(rules))
    assert read.fault == 0, rules
    return [(f.begin, f.upto, f.ended, f.fate, f.lost, f.odd, bytes(f.kept)) for f in whole_frames(read, row_of(told))]
