"""The document told a second time, slowly: a sender is all its bytes so far, and every answer is made of them anew."""

import re

CLOSED, TEN, THIRTEEN, BOTH, NUMBER, END, LIMIT = range(7)

NUMERAL = r"(?:0|[1-9][0-9]*)"
BODY = rf"(?: {NUMERAL}){{5}} [01](?: {NUMERAL})*"
CHECKPOINT = re.compile(
    rf"LOG ({NUMERAL}) ({NUMERAL}) ([01]) ({NUMERAL}) ({NUMERAL})\nSUMS(?: {NUMERAL}){{6}}\n"
    rf"HELD {NUMERAL} {NUMERAL} [01] [01](?: {NUMERAL}){{3}} [01] [01] {NUMERAL}(?: {NUMERAL})*\n"
    rf"PEND(?:{BODY})?\n((?:REC {NUMERAL}{BODY}\n)*)SUM ({NUMERAL})")

TOLD = r"([0-9]{1,5})"
SHAPES = {
    "FRAME": rf"FRAME (?:LINES (LF|CRLF|ANY)(?: ESC {TOLD})?|COUNT BASE {TOLD} SEP {TOLD}|"
             rf"LENGTH {TOLD} (BIG|LITTLE)(?: (PLUS|MINUS) {TOLD})?|SLIP END {TOLD} ESC {TOLD} AS {TOLD} {TOLD})",
    "LIMIT": rf"LIMIT {TOLD} (CUT|DROP|SPLIT)",
    "DECODE": r"DECODE (STRICT|MARK|BYTES)",
    "JOIN": rf"JOIN (NONE|BLANK|TAIL {TOLD}|HEAD (?:DIGIT|LETTER|{TOLD}))(?: MOST {TOLD})?(?: WITH (LF|SPACE|NOTHING))?",
    "EMPTY": r"EMPTY (KEEP|SKIP)",
}
WITHIN = {
    "FRAME": [None, (0, 255), (2, 36), (0, 255), (1, 4), None, None, (0, 100)] + [(0, 255)] * 4,
    "LIMIT": [(1, 1000), None],
    "DECODE": [None],
    "JOIN": [None, (0, 65535), (0, 65535), (1, 8), None],
    "EMPTY": [None],
}
NOT_TOLD = {"LIMIT": "LIMIT 1000 CUT", "DECODE": "DECODE MARK", "JOIN": "JOIN NONE", "EMPTY": "EMPTY KEEP"}


def groups_of(line):
    """What a line of words tells, numbers as numbers; None if it isn't as told."""
    word = line.split(" ")[0]
    match = re.fullmatch(SHAPES[word], line)
    if match is None:
        return None
    groups = []
    for told, within in zip(match.groups(), WITHIN[word]):
        if told is not None and within is not None:
            told = int(told)
            if not within[0] <= told <= within[1]:
                return None
        groups.append(told)
    if word == "FRAME" and (groups[1] in (10, 13) or groups[8] is not None and len(set(groups[8:])) < 4):
        return None
    return groups


def read(row):
    """The groups by their first words, or (what's wrong, the line)."""
    told = {}
    lines = bytes(row).decode("latin-1").split("\n")
    for at, line in enumerate(lines, 1):
        words = [word for word in line.split(" ") if word]
        if not words or words[0][0] == "#":
            continue
        if words[0] not in SHAPES:
            return (1, at)
        if words[0] in told:
            return (2, at)
        told[words[0]] = groups_of(" ".join(words))
        if told[words[0]] is None:
            return (3, at)
    if "FRAME" not in told:
        return (4, len(lines) + 1)
    for word, line in NOT_TOLD.items():
        told.setdefault(word, groups_of(line))
    return told


def shown(rules):
    ending, escape, base, sep, width, order, way, shift, end, slip_escape, for_end, for_escape = rules["FRAME"]
    if ending:
        frame = f"LINES {ending}" + (f" ESC {escape}" if escape is not None else "")
    elif base:
        frame = f"COUNT BASE {base} SEP {sep}"
    elif width:
        frame = f"LENGTH {width} {order}" + (f" {way} {shift}" if shift else "")
    else:
        frame = f"SLIP END {end} ESC {slip_escape} AS {for_end} {for_escape}"
    how, tail, head, most, joint = rules["JOIN"]
    number = tail if tail is not None else head
    how = how if number is None else f"{how.split()[0]} {number}"
    return (f"FRAME {frame}\nLIMIT {rules['LIMIT'][0]} {rules['LIMIT'][1]}\nDECODE {rules['DECODE'][0]}\n"
            f"JOIN {how} MOST {most or 8} WITH {joint or 'LF'}\nEMPTY {rules['EMPTY'][0]}")


def line_tokens(ending, escape, row):
    """("put", place, byte, odd), ("end", behind, ended), ("skip", behind), and last what waits, in order."""
    tokens = []
    at = 0
    while at < len(row):
        if row[at] == escape and at + 1 == len(row):
            tokens.append(("escape", at, escape, 1))
        elif row[at] == escape:
            odd = 0 if row[at + 1] in (110, 114, 116, escape) else 1
            tokens.append(("put", at, {110: 10, 114: 13, 116: 9}.get(row[at + 1], row[at + 1]), odd))
            at += 1
        elif ending == "CRLF" and row[at:at + 2] == [13, 10]:
            at += 1
            tokens.append(("end", at + 1, BOTH))
        elif ending == "CRLF" and row[at] == 13 and at + 1 == len(row):
            tokens.append(("thirteen", at, 13, 0))
        elif ending == "ANY" and row[at] == 13:
            tokens.append(("end", at + 1, THIRTEEN))
            if row[at + 1:at + 2] == [10]:
                at += 1
                tokens.append(("skip", at + 1))
            elif at + 1 == len(row):
                tokens.append(("behind",))
        elif ending != "CRLF" and row[at] == 10:
            tokens.append(("end", at + 1, TEN))
        else:
            tokens.append(("put", at, row[at], 0))
        at += 1
    return tokens


def slip_tokens(end, escape, for_end, for_escape, row):
    tokens = []
    at = 0
    while at < len(row):
        if row[at] == end:
            tokens.append(("end", at + 1, END))
        elif row[at] == escape and at + 1 == len(row):
            tokens.append(("escape", at, escape, 1))
        elif row[at] == escape:
            odd = 0 if row[at + 1] in (for_end, for_escape) else 1
            tokens.append(("put", at, {for_end: end, for_escape: escape}.get(row[at + 1], row[at + 1]), odd))
            at += 1
        else:
            tokens.append(("put", at, row[at], 0))
        at += 1
    return tokens


def packed(content, begin, upto, ended, limit, beyond):
    """The frames of one stretch of content, (place, byte, odd) each."""
    if beyond == "SPLIT":
        parts = [content[at:at + limit] for at in range(0, len(content), limit)] or [[]]
        frames = []
        for at, part in enumerate(parts):
            last = at + 1 == len(parts)
            behind = upto if last else parts[at + 1][0][0]
            frames.append((begin, behind, ended if last else LIMIT, 0 if last else 3, 0,
                           sum(odd for place, byte, odd in part), bytes(byte for place, byte, odd in part)))
            begin = behind
        return frames
    odd = sum(odd for place, byte, odd in content)
    kept = bytes(byte for place, byte, odd in content)
    if len(kept) <= limit:
        return [(begin, upto, ended, 0, 0, odd, kept)]
    if beyond == "CUT":
        return [(begin, upto, ended, 1, len(kept) - limit, odd, kept[:limit])]
    return [(begin, upto, ended, 2, len(kept), odd, b"")]


class Held:
    """The ten numbers of HELD, and the bytes kept."""

    def __init__(self, begin):
        self.numbers = [0, begin, 0, 0, 0, 0, 0, 0, 0, 0]
        self.kept = []

    def put(self, frames, content, limit, beyond):
        """Content that came in a frame that goes on; whole parts of it are split off to the frames."""
        parts = packed(content, self.numbers[1], None, None, limit, beyond)
        frames.extend(parts[:-1])
        content = content[sum(len(part[6]) for part in parts[:-1]):]
        self.numbers[0] = len(content)
        self.numbers[1] = parts[-1][0]
        self.numbers[9] = sum(odd for place, byte, odd in content)
        self.kept = [byte for place, byte, odd in content[:limit]]


def cut_by_tokens(tokens, size, closed, limit, beyond):
    frames = []
    content = []
    begin = 0
    waits = set()
    for token in tokens:
        if token[0] == "put" or closed and token[0] in ("escape", "thirteen"):
            content.append(token[1:])
        elif token[0] == "skip":
            begin = token[1]
        elif token[0] == "end":
            frames.extend(packed(content, begin, token[1], token[2], limit, beyond))
            content = []
            begin = token[1]
        else:
            waits.add(token[0])
    if closed:
        if content:
            frames.extend(packed(content, begin, size, CLOSED, limit, beyond))
        return frames, Held(size)
    held = Held(begin)
    held.put(frames, content, limit, beyond)
    held.numbers[2] = 1 if "escape" in waits else 0
    held.numbers[3] = 1 if "thirteen" in waits or "behind" in waits else 0
    return frames, held


def wrong(begin, upto, ended):
    return (begin, upto, ended, 4, upto - begin, 0, b"")


def number_by_digits(base, sep, row):
    """(how many bytes it took with its sep, the number); (None, number) if it goes on, (None, None) if it's wrong."""
    digits = ""
    for at, byte in enumerate(row):
        if byte == sep:
            return (at + 1, int(digits, base)) if digits else (None, None)
        sign = chr(byte) if byte < 128 else "?"
        if sign.lower() not in "0123456789abcdefghijklmnopqrstuvwxyz"[:base]:
            return (None, None)
        digits += sign
        if len(digits) > 12 or int(digits, base) > 4000:
            return (None, None)
    return (None, int(digits, base))


def number_by_bytes(width, order, shift, row):
    number = int.from_bytes(bytes(row[:width]), order.lower())
    if len(row) < width:
        return (None, number)
    return (width, number + shift) if 0 <= number + shift <= 4000 else (None, None)


def cut_by_numbers(number_of, to_ten, row, closed, limit, beyond):
    frames = []
    begin = 0
    held = Held(len(row))
    while begin < len(row):
        held = Held(begin)
        header, number = number_of(row[begin:])
        if header is not None:
            there = [(at, row[at], 0) for at in range(begin + header, len(row))][:number]
            behind = begin + header + len(there)
            if len(there) == number:
                frames.extend(packed(there, begin, behind, NUMBER, limit, beyond))
                begin = behind
                held = Held(begin)
                continue
            held.put(frames, there, limit, beyond)
            held.numbers[6] = number - len(there) + 1
        elif number is not None:
            held.numbers[4:6] = [number, len(row) - begin]
        elif to_ten and 10 in row[begin:]:
            frames.append(wrong(begin, row.index(10, begin) + 1, TEN))
            begin = frames[-1][1]
            held = Held(begin)
            continue
        else:
            held.numbers[7 if to_ten else 8] = 1
        break
    if closed:
        if held.numbers[1] < len(row):
            frames.append(wrong(held.numbers[1], len(row), CLOSED))
        held = Held(len(row))
    return frames, held


def cut_up(rules, row, closed):
    """The frames that have ended, and what is held."""
    ending, escape, base, sep, width, order, way, shift, end, slip_escape, for_end, for_escape = rules["FRAME"]
    limit, beyond = rules["LIMIT"]
    if ending:
        return cut_by_tokens(line_tokens(ending, escape, row), len(row), closed, limit, beyond)
    if base:
        return cut_by_numbers(lambda rest: number_by_digits(base, sep, rest), True, row, closed, limit, beyond)
    if width:
        more = (shift or 0) * (-1 if way == "MINUS" else 1)
        return cut_by_numbers(
            lambda rest: number_by_bytes(width, order, more, rest), False, row, closed, limit, beyond)
    return cut_by_tokens(slip_tokens(end, slip_escape, for_end, for_escape, row), len(row), closed, limit, beyond)


def decoded(row):
    """The code points, and the place of each wrong stretch."""
    points = []
    stretches = []
    at = 0
    while at < len(row):
        try:
            points.extend(ord(sign) for sign in bytes(row[at:]).decode("utf-8"))
            at = len(row)
        except UnicodeDecodeError as error:
            points.extend(ord(sign) for sign in bytes(row[at:at + error.start]).decode("utf-8"))
            points.append(65533)
            stretches.append(at + error.start)
            at += error.end
    return points, stretches


def lines_of(rules, frames, sums):
    """[lines, from, up to, marks, odd ones, cut, code points] of each frame that makes one."""
    lines = []
    for begin, upto, ended, fate, lost, odd, kept in frames:
        sums[0] += 1
        sums[5] += lost
        points, stretches = (list(kept), []) if rules["DECODE"] == ["BYTES"] else decoded(kept)
        if fate in (2, 4):
            sums[1 if fate == 2 else 2] += 1
        elif rules["EMPTY"] == ["SKIP"] and not kept:
            sums[4] += 1
        elif rules["DECODE"] == ["STRICT"] and stretches:
            sums[3] += 1
            sums[5] += len(kept)
        else:
            lines.append([1, begin, upto, len(stretches), odd, 1 if fate else 0, points])
    return lines


def joined(parts, joint):
    points = []
    for at, part in enumerate(parts):
        points += (joint if at else []) + part[6]
    return [len(parts), parts[0][1], parts[-1][2], sum(part[3] for part in parts), sum(part[4] for part in parts),
            max(part[5] for part in parts), points]


def begins(how, told, points):
    first = chr(points[0]) if points else ""
    if how == "BLANK":
        return first not in (" ", "\t")
    if how == "HEAD DIGIT":
        return first in "0123456789" if first else False
    if how == "HEAD LETTER":
        return re.fullmatch("[A-Za-z]", first) is not None
    return points[:1] == [told]


def records_of_lines(rules, lines, rests):
    """The records, and the lines still gathered; rests tells behind how many lines a rest came."""
    how, tail, head, most, joint = rules["JOIN"]
    most = most or 8
    records = []
    parts = []
    for at, line in enumerate(lines):
        if at in rests and parts:
            records.append(parts)
            parts = []
        if how == "NONE":
            records.append([line])
        elif tail is not None:
            more = line[6][-1:] == [tail] and len(parts) + 1 < most
            parts = parts + [line[:6] + [line[6][:-1]] if more else line]
            if not more:
                records.append(parts)
                parts = []
        else:
            if parts and (begins(how, head, line[6]) or len(parts) == most):
                records.append(parts)
                parts = []
            parts = parts + [line]
    if len(lines) in rests and parts:
        records.append(parts)
        parts = []
    points = {None: [10], "LF": [10], "SPACE": [32], "NOTHING": []}[joint]
    return [joined(each, points) for each in records], joined(parts, points) if parts else None


class Log:
    """All that came to a sender since it was opened."""

    def __init__(self):
        self.row = []
        self.rests = []
        self.closed = False
        self.taken = 0

    def copied(self):
        twin = Log()
        twin.row = list(self.row)
        twin.rests = list(self.rests)
        twin.closed = self.closed
        twin.taken = self.taken
        return twin


class Sight:
    """What a log is by its rules."""

    def __init__(self, rules, log):
        frames, self.held = cut_up(rules, log.row, log.closed)
        self.sums = [0] * 6
        lines = lines_of(rules, frames, self.sums)
        rests = [len(lines_of(rules, cut_up(rules, log.row[:place], False)[0], [0] * 6)) for place in log.rests]
        self.records, self.gathered = records_of_lines(rules, lines, rests + ([len(lines)] if log.closed else []))
        self.queue = list(enumerate(self.records))[log.taken:]


class Sender:
    def __init__(self, rules, opened):
        self.rules = rules
        self.opened = opened
        self.log = Log()
        self.slots = ["", ""]
        self.logs = [None, None]

    def best(self):
        readable = [(int(CHECKPOINT.fullmatch(text)[1]), at) for at, text in enumerate(self.slots) if is_checkpoint(text)]
        return max(readable, default=(0, None))

    def sight(self):
        return Sight(self.rules, self.log)

    def text(self, generation):
        sight = self.sight()
        lines = [["LOG", generation, self.opened, 0 if self.log.closed else 1, len(self.log.row), len(sight.records)]]
        lines.append(["SUMS"] + sight.sums)
        lines.append(["HELD"] + sight.held.numbers + sight.held.kept)
        lines.append(["PEND"] + (sight.gathered[:6] + sight.gathered[6] if sight.gathered else []))
        lines.extend(["REC", number] + record[:6] + record[6] for number, record in sight.queue)
        ahead = "".join(" ".join(map(str, line)) + "\n" for line in lines)
        return f"{ahead}SUM {check(ahead)}"

    def lose_power(self):
        at = self.best()[1]
        self.log = Log() if at is None else self.logs[at].copied()


def check(text):
    return sum(ord(sign) * at for at, sign in enumerate(text, 1)) % 65521


def is_checkpoint(text):
    match = CHECKPOINT.fullmatch(text)
    return match is not None and int(match[7]) == check(text[:match.start(7) - 4])


def is_row(row, most):
    return len(row) <= most and all(0 <= byte <= 255 for byte in row)


def row_of(text):
    return [ord(sign) for sign in text]


def with_size(row):
    return [len(row)] + list(row)


class Model:
    """Each call as a method by its name; it gives the answer."""

    def __init__(self):
        self.senders = {}

    def told(self, number):
        return -1 if not 0 <= number <= 15 else -4 if number not in self.senders else self.senders[number]

    def do(self, name, *told):
        if name in ("clear", "open", "cut", "counts", "try_rules", "decode", "encode", "frames", "batch"):
            return getattr(self, name)(*told)
        sender = self.told(told[0])
        return [sender] if isinstance(sender, int) else getattr(self, name)(sender, *told[1:])

    def clear(self):
        self.senders = {}
        return [0]

    def open(self, number, rules):
        before = self.senders.get(number)
        if not 0 <= number <= 15:
            return [-1]
        if before and not before.log.closed:
            return [-3]
        if before and before.sight().queue:
            return [-6]
        if not is_row(rules, 300):
            return [-2]
        told = read(rules)
        if isinstance(told, tuple):
            return [1] + list(told)
        self.senders[number] = Sender(told, before.opened + 1 if before else 1)
        return [0, self.senders[number].opened]

    def feed(self, sender, place, row):
        log = sender.log
        before = sender.sight()
        if not is_row(row, 500):
            return [-2]
        if log.closed:
            return [-4]
        if place < 0:
            return [-1]
        if place > len(log.row):
            return [-5]
        if len(before.queue) > 200:
            return [-8]
        log.row = log.row + row[len(log.row) - place:]
        return [len(log.row), len(sender.sight().records) - len(before.records)]

    def close(self, sender):
        before = sender.sight()
        if sender.log.closed:
            return [-4]
        sender.log.closed = True
        return [len(sender.sight().records) - len(before.records)]

    def rest(self, sender):
        before = sender.sight()
        if not sender.log.closed:
            sender.log.rests = sender.log.rests + [len(sender.log.row)]
        return [len(sender.sight().records) - len(before.records)]

    def next(self, sender):
        for number, record in sender.sight().queue[:1]:
            return [number] + record[:6] + with_size(record[6])
        return [-7]

    def take(self, sender, number):
        if not 0 <= number <= 1000000:
            return [-1]
        sender.log.taken = max(sender.log.taken, min(number, len(sender.sight().records)))
        return [len(sender.sight().queue)]

    def save(self, sender):
        generation = sender.best()[0] + 1
        sender.slots[generation % 2] = sender.text(generation)
        sender.logs[generation % 2] = sender.log.copied()
        return [len(sender.log.row), generation]

    def cut(self):
        for sender in self.senders.values():
            sender.lose_power()
        return [len(self.senders)]

    def cutsave(self, sender, number):
        if not 0 <= number <= 1000000:
            return [-1]
        generation = self.save(sender)[1]
        sender.slots[generation % 2] = sender.slots[generation % 2][:number]
        self.cut()
        return [len(sender.log.row)]

    def ack(self, sender):
        generation, at = sender.best()
        if at is None:
            return [0, 0, 0]
        log = sender.logs[at]
        return [len(log.row), len(Sight(sender.rules, log).records), generation]

    def slot(self, sender, at, place, size):
        if at not in (0, 1) or not 0 <= place <= 1000000 or not 0 <= size <= 500:
            return [-1]
        return [len(sender.slots[at])] + with_size(row_of(sender.slots[at])[place:place + size])

    def readslot(self, sender, text):
        if not is_row(text, 20000):
            return [-2]
        text = bytes(text).decode("latin-1")
        if not is_checkpoint(text):
            return [1]
        match = CHECKPOINT.fullmatch(text)
        return [0] + [int(match[at]) for at in range(1, 6)] + [match[6].count("\n")]

    def held(self, sender):
        sight = sender.sight()
        lines = sight.gathered[0] if sight.gathered else 0
        points = sight.gathered[6] if sight.gathered else []
        return [len(sender.log.row)] + sight.held.numbers + [lines] + with_size(sight.held.kept) + with_size(points)

    def sums(self, sender):
        sight = sender.sight()
        return sight.sums + [len(sight.records), len(sight.queue)]

    def rule(self, sender):
        return [sender.opened] + with_size(row_of(shown(sender.rules)))

    def try_rules(self, rules):
        if not is_row(rules, 300):
            return [-2]
        told = read(rules)
        return [1] + list(told) if isinstance(told, tuple) else [0] + with_size(row_of(shown(told)))

    def decode(self, mode, row):
        if mode not in (0, 1, 2):
            return [-1]
        if not is_row(row, 500):
            return [-2]
        points, stretches = (row, []) if mode == 2 else decoded(row)
        return [1, stretches[0]] if mode == 0 and stretches else [0, len(stretches)] + with_size(points)

    def encode(self, points):
        if len(points) > 500 or not all(0 <= point <= 0x10ffff and not 0xd800 <= point <= 0xdfff for point in points):
            return [-2]
        return [0] + with_size("".join(chr(point) for point in points).encode("utf-8"))

    def whole(self, rules, row):
        """A refusal, or the sight of a sender that closed behind the row."""
        if not is_row(row, 500) or not is_row(rules, 300):
            return [-2], None
        told = read(rules)
        if isinstance(told, tuple):
            return [1] + list(told), None
        log = Log()
        log.row = row
        log.closed = True
        return told, log

    def frames(self, rules, row):
        told, log = self.whole(rules, row)
        if log is None:
            return told
        frames = cut_up(told, row, True)[0]
        return [0, len(frames)] + [number for frame in frames for number in with_size(list(frame[:6]) + list(frame[6]))]

    def batch(self, rules, row):
        told, log = self.whole(rules, row)
        if log is None:
            return told
        records = Sight(told, log).records
        return [0, len(records)] + [number for record in records for number in with_size(record[:6] + record[6])]

    def counts(self):
        return [sum(not sender.log.closed for sender in self.senders.values()), len(self.senders)]
