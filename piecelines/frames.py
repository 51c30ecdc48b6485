"""Bytes cut into frames: what is held of a frame, and what each byte does to it."""

BY_CLOSE = 0
BY_TEN = 1
BY_THIRTEEN = 2
BY_BOTH = 3
BY_NUMBER = 4
BY_END = 5
BY_LIMIT = 6

WHOLE = 0
CUT = 1
DROPPED = 2
SPLIT_OFF = 3
WRONG = 4

MOST_DIGITS = 12
MOST_CONTENT = 4000

# n, r and t behind an escape.
ESCAPED = {110: 10, 114: 13, 116: 9}


class Frame:
    def __init__(self, begin, upto, ended, fate):
        self.begin = begin
        self.upto = upto
        self.ended = ended
        self.fate = fate
        self.lost = 0
        self.odd = 0
        self.kept = []


# What waits is 1 or 0, as a checkpoint tells it.
class Held:
    def __init__(self, begin):
        self.content = 0
        self.begin = begin
        self.escape_waits = 0
        self.thirteen_waits = 0
        self.number = 0
        self.signs = 0
        self.to_come = 0
        self.to_ten = 0
        self.endless = 0
        self.odd = 0
        self.kept = []


# In the order in which checkpoints tell them.
def held_numbers(held):
    return [
        held.content,
        held.begin,
        held.escape_waits,
        held.thirteen_waits,
        held.number,
        held.signs,
        held.to_come,
        held.to_ten,
        held.endless,
        held.odd,
    ]


def held_of(numbers, kept):
    held = Held(numbers[1])
    held.content = numbers[0]
    held.escape_waits = numbers[2]
    held.thirteen_waits = numbers[3]
    held.number = numbers[4]
    held.signs = numbers[5]
    held.to_come = numbers[6]
    held.to_ten = numbers[7]
    held.endless = numbers[8]
    held.odd = numbers[9]
    held.kept = kept
    return held


# What is still to come of a told number stays, as a frame may be split within it.
def begin_next(held, place):
    held.content = 0
    held.begin = place
    held.odd = 0
    held.kept = []


def end_frame(rules, held, upto, ended, out):
    frame = Frame(held.begin, upto, ended, SPLIT_OFF if ended == BY_LIMIT else WHOLE)
    frame.odd = held.odd
    frame.kept = held.kept
    if held.content > rules.limit and rules.beyond == "CUT":
        frame.fate = CUT
        frame.lost = held.content - rules.limit
    elif held.content > rules.limit:
        frame.fate = DROPPED
        frame.lost = held.content
        frame.kept = []
    out.append(frame)
    begin_next(held, upto)


def end_wrong(held, upto, ended, out):
    frame = Frame(held.begin, upto, ended, WRONG)
    frame.lost = upto - held.begin
    out.append(frame)
    begin_next(held, upto)


# The place is that of the escape ahead, if the byte was escaped.
def put_content(rules, held, place, byte, out):
    if rules.beyond == "SPLIT" and held.content == rules.limit:
        end_frame(rules, held, place, BY_LIMIT, out)
    held.content += 1
    if held.content <= rules.limit:
        held.kept.append(byte)


# The odd one is counted last: a split makes it the next frame's.
def put_odd(rules, held, place, byte, out):
    put_content(rules, held, place, byte, out)
    held.odd += 1


def put_escaped(rules, held, place, byte, out):
    held.escape_waits = 0
    if rules.kind == "SLIP" and byte == rules.for_end:
        put_content(rules, held, place, rules.end, out)
    elif rules.kind == "SLIP" and byte == rules.for_escape:
        put_content(rules, held, place, rules.escape, out)
    elif rules.kind == "LINES" and byte in ESCAPED:
        put_content(rules, held, place, ESCAPED[byte], out)
    elif rules.kind == "LINES" and byte == rules.escape:
        put_content(rules, held, place, byte, out)
    else:
        put_odd(rules, held, place, byte, out)


def take_behind_thirteen(rules, held, place, byte, out):
    held.thirteen_waits = 0
    if byte == 10 and rules.ending == "CRLF":
        end_frame(rules, held, place + 1, BY_BOTH, out)
    elif byte == 10:
        begin_next(held, place + 1)
    else:
        if rules.ending == "CRLF":
            put_content(rules, held, place - 1, 13, out)
        take_plain(rules, held, place, byte, out)


def take_plain(rules, held, place, byte, out):
    if byte == rules.escape:
        held.escape_waits = 1
    elif byte == 10 and rules.ending != "CRLF":
        end_frame(rules, held, place + 1, BY_TEN, out)
    elif byte == 13 and rules.ending == "ANY":
        end_frame(rules, held, place + 1, BY_THIRTEEN, out)
        held.thirteen_waits = 1
    elif byte == 13 and rules.ending == "CRLF":
        held.thirteen_waits = 1
    else:
        put_content(rules, held, place, byte, out)


def take_lines(rules, held, place, byte, out):
    if held.escape_waits:
        put_escaped(rules, held, place - 1, byte, out)
    elif held.thirteen_waits:
        take_behind_thirteen(rules, held, place, byte, out)
    else:
        take_plain(rules, held, place, byte, out)


def take_slip(rules, held, place, byte, out):
    if held.escape_waits:
        put_escaped(rules, held, place - 1, byte, out)
    elif byte == rules.end:
        end_frame(rules, held, place + 1, BY_END, out)
    elif byte == rules.escape:
        held.escape_waits = 1
    else:
        put_content(rules, held, place, byte, out)


def begin_content(rules, held, place, number, out):
    held.number = 0
    held.signs = 0
    if number == 0:
        end_frame(rules, held, place + 1, BY_NUMBER, out)
    else:
        held.to_come = number + 1


def take_counted(rules, held, place, byte, out):
    put_content(rules, held, place, byte, out)
    held.to_come -= 1
    if held.to_come == 1:
        held.to_come = 0
        end_frame(rules, held, place + 1, BY_NUMBER, out)


# The value of a digit in the base; -1 of any other byte.
def digit_of(base, byte):
    digit = -1
    if 48 <= byte <= 57:
        digit = byte - 48
    elif 65 <= byte <= 90:
        digit = byte - 65 + 10
    elif 97 <= byte <= 122:
        digit = byte - 97 + 10
    return digit if digit < base else -1


def go_to_ten(held, place, byte, out):
    held.number = 0
    held.signs = 0
    held.to_ten = 1
    if byte == 10:
        held.to_ten = 0
        end_wrong(held, place + 1, BY_TEN, out)


# SEP is asked for first, as it may be a digit itself.
def take_digit(rules, held, place, byte, out):
    digit = digit_of(rules.base, byte)
    number = held.number * rules.base + digit
    if byte == rules.sep and held.signs > 0:
        begin_content(rules, held, place, held.number, out)
    elif byte == rules.sep or digit < 0 or held.signs == MOST_DIGITS or number > MOST_CONTENT:
        go_to_ten(held, place, byte, out)
    else:
        held.number = number
        held.signs += 1


def take_count(rules, held, place, byte, out):
    if held.to_ten:
        go_to_ten(held, place, byte, out)
    elif held.to_come:
        take_counted(rules, held, place, byte, out)
    else:
        take_digit(rules, held, place, byte, out)


def take_size(rules, held, place, byte, out):
    if rules.order == "BIG":
        held.number = held.number * 256 + byte
    else:
        held.number += byte << (8 * held.signs)
    held.signs += 1
    if held.signs < rules.width:
        return
    number = held.number + rules.shift
    if 0 <= number <= MOST_CONTENT:
        begin_content(rules, held, place, number, out)
    else:
        held.number = 0
        held.signs = 0
        held.endless = 1


def take_length(rules, held, place, byte, out):
    if held.endless:
        return
    if held.to_come:
        take_counted(rules, held, place, byte, out)
    else:
        take_size(rules, held, place, byte, out)


# The frames that end are put to out: a byte may end two, by a 13 that waited.
def take_byte(rules, held, place, byte, out):
    if rules.kind == "LINES":
        take_lines(rules, held, place, byte, out)
    elif rules.kind == "COUNT":
        take_count(rules, held, place, byte, out)
    elif rules.kind == "LENGTH":
        take_length(rules, held, place, byte, out)
    else:
        take_slip(rules, held, place, byte, out)


# At the close; the place is that behind the last byte.
def end_held(rules, held, place, out):
    if rules.kind in ("COUNT", "LENGTH"):
        if place > held.begin:
            end_wrong(held, place, BY_CLOSE, out)
        return
    if held.escape_waits:
        put_odd(rules, held, place - 1, rules.escape, out)
    elif held.thirteen_waits and rules.ending == "CRLF":
        put_content(rules, held, place - 1, 13, out)
    if held.content > 0:
        end_frame(rules, held, place, BY_CLOSE, out)


# The frames that these bytes are for a new sender that closes behind them.
def whole_frames(rules, row):
    held = Held(0)
    out = []
    for place, byte in enumerate(row):
        take_byte(rules, held, place, byte, out)
    end_held(rules, held, len(row), out)
    return out
