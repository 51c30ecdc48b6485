"""The rules of a sender, read from a text."""

from piecelines.words import number_within, spelled

UNKNOWN_WORD = 1
TOLD_BEFORE = 2
NOT_AS_TOLD = 3
NO_FRAME = 4


# The values at the beginning are those of lines that aren't told.
class Rules:
    def __init__(self):
        self.fault = 0
        self.fault_line = 0
        self.kind = ""
        self.ending = ""
        self.escape = -1
        self.base = 0
        self.sep = 0
        self.width = 0
        self.order = ""
        self.shift = 0
        self.end = 0
        self.for_end = 0
        self.for_escape = 0
        self.limit = 1000
        self.beyond = "CUT"
        self.decoding = "MARK"
        self.how = "NONE"
        self.sign = ""
        self.point = 0
        self.most = 8
        self.joint = "LF"
        self.empty = "KEEP"


def read_lines(rules, words):
    if len(words) not in (1, 3) or words[0] not in ("LF", "CRLF", "ANY"):
        return False
    rules.ending = words[0]
    if len(words) == 1:
        return True
    rules.escape = number_within(words[2], 0, 255)
    return words[1] == "ESC" and rules.escape not in (-1, 10, 13)


def read_count(rules, words):
    if len(words) != 4 or words[0] != "BASE" or words[2] != "SEP":
        return False
    rules.base = number_within(words[1], 2, 36)
    rules.sep = number_within(words[3], 0, 255)
    return rules.base >= 0 and rules.sep >= 0


def read_length(rules, words):
    if len(words) not in (2, 4) or words[1] not in ("BIG", "LITTLE"):
        return False
    rules.width = number_within(words[0], 1, 4)
    rules.order = words[1]
    if len(words) == 2:
        return rules.width >= 0
    shift = number_within(words[3], 0, 100)
    rules.shift = shift if words[2] == "PLUS" else -shift
    return rules.width >= 0 and shift >= 0 and words[2] in ("PLUS", "MINUS")


def read_slip(rules, words):
    if len(words) != 7 or words[0] != "END" or words[2] != "ESC" or words[4] != "AS":
        return False
    told = [number_within(words[at], 0, 255) for at in (1, 3, 5, 6)]
    rules.end = told[0]
    rules.escape = told[1]
    rules.for_end = told[2]
    rules.for_escape = told[3]
    return -1 not in told and len(set(told)) == 4


FRAME_READERS = {"LINES": read_lines, "COUNT": read_count, "LENGTH": read_length, "SLIP": read_slip}


def read_frame(rules, words):
    if not words or words[0] not in FRAME_READERS:
        return False
    rules.kind = words[0]
    return FRAME_READERS[words[0]](rules, words[1:])


def read_limit(rules, words):
    if len(words) != 2:
        return False
    rules.limit = number_within(words[0], 1, 1000)
    rules.beyond = words[1]
    return rules.limit >= 0 and rules.beyond in ("CUT", "DROP", "SPLIT")


def read_decode(rules, words):
    if len(words) != 1:
        return False
    rules.decoding = words[0]
    return rules.decoding in ("STRICT", "MARK", "BYTES")


def read_sign(rules, word):
    if rules.how == "HEAD" and word in ("DIGIT", "LETTER"):
        rules.sign = word
        return True
    rules.sign = "POINT"
    rules.point = number_within(word, 0, 65535)
    return rules.point >= 0


def read_most(rules, word):
    rules.most = number_within(word, 1, 8)
    return rules.most >= 0


def read_joint(rules, word):
    rules.joint = word
    return word in ("LF", "SPACE", "NOTHING")


def read_join(rules, words):
    if not words or words[0] not in ("NONE", "BLANK", "TAIL", "HEAD"):
        return False
    rules.how = words[0]
    rest = words[1:]
    if rules.how in ("TAIL", "HEAD"):
        if not rest or not read_sign(rules, rest[0]):
            return False
        rest = rest[1:]
    if len(rest) >= 2 and rest[0] == "MOST":
        if not read_most(rules, rest[1]):
            return False
        rest = rest[2:]
    if len(rest) >= 2 and rest[0] == "WITH":
        if not read_joint(rules, rest[1]):
            return False
        rest = rest[2:]
    return not rest


def read_empty(rules, words):
    if len(words) != 1:
        return False
    rules.empty = words[0]
    return rules.empty in ("KEEP", "SKIP")


READERS = {
    "FRAME": read_frame,
    "LIMIT": read_limit,
    "DECODE": read_decode,
    "JOIN": read_join,
    "EMPTY": read_empty,
}


def line_fault(rules, told, words):
    if words[0] not in READERS:
        return UNKNOWN_WORD
    if words[0] in told:
        return TOLD_BEFORE
    if not READERS[words[0]](rules, words[1:]):
        return NOT_AS_TOLD
    return 0


# Rules with a fault tell that alone: their other values may be half read.
def read_rules(row):
    rules = Rules()
    told = {}
    lines = spelled(row).split("\n")
    for at, line in enumerate(lines, start=1):
        words = [word for word in line.split(" ") if word]
        if not words or words[0].startswith("#"):
            continue
        rules.fault = line_fault(rules, told, words)
        if rules.fault:
            rules.fault_line = at
            return rules
        told[words[0]] = True
    if "FRAME" not in told:
        rules.fault = NO_FRAME
        rules.fault_line = len(lines) + 1
    return rules


# What a call answers where rules are told that are wrong.
def fault_answer(rules):
    return [1, rules.fault, rules.fault_line]
