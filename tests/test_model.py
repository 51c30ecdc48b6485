"""Random bytes against a model that sees them whole, and with power lost at random."""

import random
import unittest

from piecelines.senders import answers
from telling import Telling, feed_in_pieces, frames_of, parted, records_of

CLOSED, TEN, THIRTEEN, BOTH, NUMBER, END, LIMIT = range(7)


def line_tokens(ending, escape, row):
    """("put", place, byte, odd), ("end", behind, ended) and ("skip", behind), in order."""
    tokens = []
    at = 0
    while at < len(row):
        if row[at] == escape and at + 1 == len(row):
            tokens.append(("put", at, escape, 1))
        elif row[at] == escape:
            odd = 0 if row[at + 1] in (110, 114, 116, escape) else 1
            tokens.append(("put", at, {110: 10, 114: 13, 116: 9}.get(row[at + 1], row[at + 1]), odd))
            at += 1
        elif ending == "CRLF" and row[at:at + 2] == [13, 10]:
            at += 1
            tokens.append(("end", at + 1, BOTH))
        elif ending == "ANY" and row[at] == 13:
            tokens.append(("end", at + 1, THIRTEEN))
            if row[at + 1:at + 2] == [10]:
                at += 1
                tokens.append(("skip", at + 1))
        elif ending != "CRLF" and row[at] == 10:
            tokens.append(("end", at + 1, TEN))
        else:
            tokens.append(("put", at, row[at], 0))
        at += 1
    return tokens


def slip_tokens(end, escape, for_end, for_escape, row):
    tokens = []
    at = 0
    while at < len(row):
        if row[at] == end:
            tokens.append(("end", at + 1, END))
        elif row[at] == escape and at + 1 == len(row):
            tokens.append(("put", at, escape, 1))
        elif row[at] == escape:
            odd = 0 if row[at + 1] in (for_end, for_escape) else 1
            tokens.append(("put", at, {for_end: end, for_escape: escape}.get(row[at + 1], row[at + 1]), odd))
            at += 1
        else:
            tokens.append(("put", at, row[at], 0))
        at += 1
    return tokens


def packed(content, begin, upto, ended, limit, beyond):
    """The frames of one stretch of content, (place, byte, odd) each."""
    if beyond == "SPLIT":
        parts = [content[at:at + limit] for at in range(0, len(content), limit)] or [[]]
        frames = []
        for at, part in enumerate(parts):
            last = at + 1 == len(parts)
            behind = upto if last else parts[at + 1][0][0]
            frames.append((begin, behind, ended if last else LIMIT, 0 if last else 3, 0,
                           sum(odd for place, byte, odd in part), bytes(byte for place, byte, odd in part)))
            begin = behind
        return frames
    odd = sum(odd for place, byte, odd in content)
    kept = bytes(byte for place, byte, odd in content)
    if len(kept) <= limit:
        return [(begin, upto, ended, 0, 0, odd, kept)]
    if beyond == "CUT":
        return [(begin, upto, ended, 1, len(kept) - limit, odd, kept[:limit])]
    return [(begin, upto, ended, 2, len(kept), odd, b"")]


def frames_by_tokens(tokens, size, limit, beyond):
    frames = []
    content = []
    begin = 0
    for token in tokens:
        if token[0] == "put":
            content.append(token[1:])
        elif token[0] == "skip":
            begin = token[1]
        else:
            frames.extend(packed(content, begin, token[1], token[2], limit, beyond))
            content = []
            begin = token[1]
    if content:
        frames.extend(packed(content, begin, size, CLOSED, limit, beyond))
    return frames


def wrong(begin, upto, ended):
    return (begin, upto, ended, 4, upto - begin, 0, b"")


def counted(row, begin, header, number, limit, beyond):
    """The frames of a number's content; the last one is wrong if the row ends within it."""
    there = [(at, row[at], 0) for at in range(header, min(header + number, len(row)))]
    frames = packed(there, begin, header + len(there), NUMBER, limit, beyond)
    if len(there) < number:
        frames[-1] = wrong(frames[-1][0], len(row), CLOSED)
    return frames


def value_of(digits, base):
    try:
        return int(bytes(digits).decode("ascii"), base)
    except (ValueError, UnicodeDecodeError):
        return -1


def count_frames(base, sep, row, limit, beyond):
    frames = []
    begin = 0
    while begin < len(row):
        at = begin
        while at < len(row) and row[at] != sep and at - begin <= 12 and chr(row[at]).isalnum() and row[at] < 128:
            at += 1
        digits = row[begin:at]
        number = value_of(digits, base) if 1 <= len(digits) <= 12 else -1
        if at < len(row) and row[at] == sep and 0 <= number <= 4000:
            frames.extend(counted(row, begin, at + 1, number, limit, beyond))
        elif 10 in row[begin:]:
            frames.append(wrong(begin, row.index(10, begin) + 1, TEN))
        else:
            frames.append(wrong(begin, len(row), CLOSED))
        begin = frames[-1][1]
    return frames


def length_frames(width, order, shift, row, limit, beyond):
    frames = []
    begin = 0
    while begin < len(row):
        number = int.from_bytes(bytes(row[begin:begin + width]), order.lower()) + shift
        if len(row) - begin < width or not 0 <= number <= 4000:
            frames.append(wrong(begin, len(row), CLOSED))
        else:
            frames.extend(counted(row, begin, begin + width, number, limit, beyond))
        begin = frames[-1][1]
    return frames


def random_case(source):
    """The words behind FRAME, a model of them, and the bytes that matter to them."""
    way = source.randrange(4)
    if way == 0:
        ending = source.choice(["LF", "CRLF", "ANY"])
        escape = source.choice([-1, 92, 110])
        told = "LINES " + ending + ("" if escape < 0 else " ESC " + str(escape))
        return (told, lambda row, limit, beyond: frames_by_tokens(
            line_tokens(ending, escape, row), len(row), limit, beyond), [10, 13, 92, 110, 114, 97, 200])
    if way == 1:
        return ("SLIP END 1 ESC 2 AS 3 4", lambda row, limit, beyond: frames_by_tokens(
            slip_tokens(1, 2, 3, 4, row), len(row), limit, beyond), [1, 2, 3, 4, 5, 5])
    if way == 2:
        base = source.choice([2, 3, 10, 16, 36])
        sep = source.choice([32, 10, 49])
        return ("COUNT BASE " + str(base) + " SEP " + str(sep), lambda row, limit, beyond: count_frames(
            base, sep, row, limit, beyond), [sep, sep, 48, 48, 49, 50, 51, 97, 10])
    width = source.randrange(1, 5)
    order = source.choice(["BIG", "LITTLE"])
    shift = source.choice([-2, 0, 0, 3])
    told = "LENGTH " + str(width) + " " + order + (" PLUS 3" if shift > 0 else " MINUS 2" if shift < 0 else "")
    return (told, lambda row, limit, beyond: length_frames(width, order, shift, row, limit, beyond),
            [0] * 12 * (width - 1) + [2, 3, 4, 5])


JOINS = ["NONE", "BLANK", "HEAD 97 MOST 3", "TAIL 92 WITH SPACE", "HEAD LETTER WITH NOTHING", "TAIL 5 MOST 2"]


class ModelTest(unittest.TestCase):
    def test_frames(self):
        source = random.Random(1)
        for turn in range(3000):
            told, model, signs = random_case(source)
            limit = source.choice([1, 2, 3, 5, 1000])
            beyond = source.choice(["CUT", "DROP", "SPLIT"])
            row = [source.choice(signs) for at in range(source.randrange(30))]
            rules = "FRAME " + told + "\nLIMIT " + str(limit) + " " + beyond
            with self.subTest(rules=rules, row=row):
                self.assertEqual(frames_of(rules, row), model(row, limit, beyond))

    def test_pieces_and_power(self):
        source = random.Random(2)
        for turn in range(300):
            told, model, signs = random_case(source)
            rules = "FRAME {}\nLIMIT {} {}\nJOIN {}\nDECODE {}\nEMPTY {}".format(
                told, source.choice([2, 3, 1000]), source.choice(["CUT", "DROP", "SPLIT"]), source.choice(JOINS),
                source.choice(["MARK", "STRICT", "BYTES"]), source.choice(["KEEP", "SKIP"]))
            row = [source.choice(signs + [32, 195, 169]) for at in range(source.randrange(60))]
            with self.subTest(rules=rules, row=row):
                due = records_of(rules, row)
                self.assertEqual(records_of(rules, row, source.randrange(1, 8)), due)
                self.assertEqual(self.records_with_power_lost(source, rules, row, due), due)

    def records_with_power_lost(self, source, rules, row, due):
        """Each record's answer by its number; a number with two texts fails."""
        telling = Telling().open(0, rules)
        seen = {}
        for turn in range(40):
            self.do_one(source, telling, row)
            answer = telling.next(0).last()
            if len(answer) > 1:
                self.assertEqual(seen.setdefault(answer[0], answer), answer)
        place = telling.feed(0, 0, "").last()[0]
        feed_in_pieces(telling, 0, row[place:], 500, place).close(0)
        for number in range(len(due) + 1):
            answer = telling.next(0).last()
            if len(answer) > 1:
                self.assertEqual(seen.setdefault(answer[0], answer), answer)
                telling.take(0, answer[0] + 1)
        return [seen[number] for number in sorted(seen)]

    def do_one(self, source, telling, row):
        way = source.randrange(8)
        if way < 3:
            place = telling.ack(0).last()[0]
            telling.feed(0, place, row[place:place + source.randrange(20)])
        elif way == 3:
            waiting = telling.next(0).last()[0]
            # What is taken has to be seen first, as it's told no more.
            if waiting >= 0:
                telling.take(0, waiting + 1)
        elif way == 4:
            telling.save(0)
        elif way == 5:
            telling.cut()
        else:
            telling.cutsave(0, source.choice([0, 10, 60, 100, 1000000]))

    def test_two_lists_of_calls_do_not_touch_each_other(self):
        first = Telling().open(0, "FRAME LINES LF").feed(0, 0, "a\nb").save(0).next(0).calls
        second = Telling().open(0, "FRAME LINES CRLF").feed(0, 0, "c\r\n").next(0).calls
        due = (answers(first), answers(second))
        self.assertEqual((answers(first), answers(second)), due)
        self.assertEqual(parted(due[1]), [[0, 1], [3, 1], [0, 1, 0, 3, 0, 0, 0, 1, 99]])


if __name__ == "__main__":
    unittest.main()
