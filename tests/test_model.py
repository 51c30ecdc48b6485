"""Random calls against a model that makes every answer anew from all bytes, and with power lost at random."""

import random
import unittest

from model import Model, cut_up, read
from telling import Telling, feed_in_pieces, frames_of, records_of, row_of

JOINS = ["NONE", "BLANK", "HEAD 97 MOST 3", "TAIL 92 WITH SPACE", "HEAD LETTER WITH NOTHING", "TAIL 5 MOST 2",
         "HEAD DIGIT MOST 4", "BLANK MOST 2 WITH SPACE", "TAIL 48"]


def random_frame(source):
    """The words behind FRAME, and the bytes that matter to them."""
    way = source.randrange(4)
    if way == 0:
        escape = source.choice(["", " ESC 92", " ESC 110", " ESC 0"])
        return "LINES " + source.choice(["LF", "CRLF", "ANY"]) + escape, [10, 13, 92, 110, 114, 97, 200]
    if way == 1:
        return "SLIP END 1 ESC 2 AS 3 4", [1, 2, 3, 4, 5, 5]
    if way == 2:
        sep = source.choice([32, 10, 49])
        told = "COUNT BASE " + str(source.choice([2, 3, 10, 16, 36])) + " SEP " + str(sep)
        return told, [sep, sep, 48, 48, 49, 50, 51, 97, 10]
    width = source.randrange(1, 5)
    told = "LENGTH " + str(width) + " " + source.choice(["BIG", "LITTLE"])
    return told + source.choice(["", "", " PLUS 3", " MINUS 2", " MINUS 0"]), [0] * 12 * (width - 1) + [2, 3, 4, 5]


def random_rules(source, told):
    lines = ["FRAME " + told]
    if source.randrange(4):
        lines.append("LIMIT " + str(source.choice([1, 2, 3, 5, 1000])) + " " + source.choice(["CUT", "DROP", "SPLIT"]))
    if source.randrange(4):
        lines.append("JOIN " + source.choice(JOINS))
    if source.randrange(4):
        lines.append("DECODE " + source.choice(["MARK", "STRICT", "BYTES"]))
    if source.randrange(4):
        lines.append("EMPTY " + source.choice(["KEEP", "SKIP"]))
    source.shuffle(lines)
    return "\n".join(lines)


def random_row(source, signs, most):
    return [source.choice(signs + [32, 195, 169]) for at in range(source.randrange(most))]


class FramesTest(unittest.TestCase):
    def test_frames(self):
        source = random.Random(1)
        for turn in range(3000):
            told, signs = random_frame(source)
            rules = random_rules(source, told)
            row = [source.choice(signs) for at in range(source.randrange(30))]
            with self.subTest(rules=rules, row=row):
                self.assertEqual(frames_of(rules, row), cut_up(read(row_of(rules)), row, True)[0])


class PowerTest(unittest.TestCase):
    def test_pieces_and_power(self):
        source = random.Random(2)
        for turn in range(300):
            told, signs = random_frame(source)
            rules = random_rules(source, told)
            row = random_row(source, signs, 60)
            with self.subTest(rules=rules, row=row):
                due = records_of(rules, row)
                self.assertEqual(records_of(rules, row, source.randrange(1, 8)), due)
                self.assertEqual(self.records_with_power_lost(source, rules, row, due), due)

    def records_with_power_lost(self, source, rules, row, due):
        """Each record's answer by its number; a number with two texts fails."""
        telling = Telling().open(0, rules)
        seen = {}
        for turn in range(40):
            self.do_one(source, telling, row)
            answer = telling.next(0).last()
            if len(answer) > 1:
                self.assertEqual(seen.setdefault(answer[0], answer), answer)
        place = telling.feed(0, 0, "").last()[0]
        feed_in_pieces(telling, 0, row[place:], 500, place).close(0)
        for number in range(len(due) + 1):
            answer = telling.next(0).last()
            if len(answer) > 1:
                self.assertEqual(seen.setdefault(answer[0], answer), answer)
                telling.take(0, answer[0] + 1)
        return [seen[number] for number in sorted(seen)]

    def do_one(self, source, telling, row):
        way = source.randrange(8)
        if way < 3:
            place = telling.ack(0).last()[0]
            telling.feed(0, place, row[place:place + source.randrange(20)])
        elif way == 3:
            waiting = telling.next(0).last()[0]
            # What is taken has to be seen first, as it's told no more.
            if waiting >= 0:
                telling.take(0, waiting + 1)
        elif way == 4:
            telling.save(0)
        elif way == 5:
            telling.cut()
        else:
            telling.cutsave(0, source.choice([0, 10, 60, 100, 1000000]))


class Caller:
    """Random calls, told to the program's list and to the model alike."""

    def __init__(self, seed):
        self.source = random.Random(seed)
        self.telling = Telling()
        self.model = Model()
        self.due = []
        self.rules = "FRAME LINES LF"
        self.signs = [97]
        self.signs_of = {}

    def do(self, name, *told):
        getattr(self.telling, name)(*told)
        self.due.append(self.model.do(name, *[row_of(part) if isinstance(part, str) else part for part in told]))
        return self.due[-1]

    def place(self, sender):
        there = self.model.senders.get(sender)
        place = len(there.log.row) if there else 0
        return self.source.choice([place] * 16 + [0, max(0, place - 3), place + 1, -1])

    def new_rules(self):
        told, self.signs = random_frame(self.source)
        self.rules = random_rules(self.source, told)
        return self.rules

    def text_shown(self, sender):
        """A slot's text by the model, perhaps with a sign changed."""
        there = self.model.senders.get(sender)
        row = row_of(there.slots[self.source.randrange(2)] if there else "LOG")
        for turn in range(self.source.choice([0, 0, 1]) if row else 0):
            row[self.source.randrange(len(row))] = self.source.choice([10, 32, 48, 49, 65, 256])
        return row

    def told(self, name, sender):
        """What is told behind the name of a call."""
        source = self.source
        signs = self.signs_of.get(sender, self.signs) if name == "feed" else self.signs
        row = random_row(source, signs, 25) + source.choice([[]] * 60 + [[256], [-1], [10 ** 18]])
        if name in ("clear", "cut", "counts"):
            return []
        if name == "open":
            return [sender, self.new_rules()]
        if name == "feed":
            return [sender, self.place(sender), row]
        if name == "take":
            return [sender, source.choice([0, 1, 2, 3, 5, 10, 1000000, 1000001, -1])]
        if name == "cutsave":
            return [sender, source.choice([0, 10, 60, 100, 1000000, 1000001, -1])]
        if name == "slot":
            return [sender, source.choice([0, 1] * 6 + [2, -1]), source.choice([0] * 8 + [50, 120, 1000000, 1000001, -1]),
                    source.choice([500] * 8 + [0, 70, 501, -1])]
        if name == "readslot":
            return [sender, self.text_shown(sender)]
        if name == "try_rules":
            return [source.choice([self.new_rules(), self.rules + "\nEMPTY SKIP", "LIMIT 0 CUT"])]
        if name == "decode":
            return [source.choice([0, 1, 2, 3]), row]
        if name == "encode":
            return [[source.choice([0, 127, 128, 2047, 2048, 55295, 57344, 65535, 65536, 1114111]) for byte in row]]
        if name in ("frames", "batch"):
            return [self.rules, row]
        return [sender]

    def do_one(self):
        name = self.source.choice(ROUND)
        sender = self.source.choice(SENDERS)
        # A sender that was never opened is tried now and then, not all the time.
        if sender in (0, 1, 2) and sender not in self.model.senders and self.source.randrange(4):
            name = "open"
        answer = self.do(name, *self.told(name, sender))
        if name == "open" and answer[0] == 0:
            self.signs_of[sender] = self.signs


ROUND = ("feed " * 16 + "held held held sums sums next next next take save save cut cutsave ack rest close open open "
         "slot slot readslot readslot rule try_rules decode encode frames batch counts").split()
SENDERS = [0] * 14 + [1] * 4 + [2] * 2 + [15, 16, -1]


class CallsTest(unittest.TestCase):
    def test_random_calls(self):
        for seed in range(300):
            caller = Caller(seed)
            for turn in range(120):
                caller.do_one()
            with self.subTest(seed=seed):
                self.assertEqual(caller.telling.answers(), caller.due)


if __name__ == "__main__":
    unittest.main()
