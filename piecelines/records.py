"""Lines joined to records, which wait in a queue."""

JOINTS = {"LF": (10,), "SPACE": (32,), "NOTHING": ()}


# One line, or several joined. None is changed once it is made: checkpoints share them.
class Body:
    def __init__(self, lines, begin, upto, points):
        self.lines = lines
        self.begin = begin
        self.upto = upto
        self.marks = 0
        self.odd = 0
        self.cut = 0
        self.points = points


class Record:
    def __init__(self, number, body):
        self.number = number
        self.body = body


# In the order in which calls and checkpoints tell them.
def body_numbers(body):
    return [body.lines, body.begin, body.upto, body.marks, body.odd, body.cut]


def body_of(numbers, points):
    body = Body(numbers[0], numbers[1], numbers[2], points)
    body.marks = numbers[3]
    body.odd = numbers[4]
    body.cut = numbers[5]
    return body


def joined(rules, gathered, line):
    points = gathered.points + list(JOINTS[rules.joint]) + line.points
    body = Body(gathered.lines + line.lines, gathered.begin, line.upto, points)
    body.marks = gathered.marks + line.marks
    body.odd = gathered.odd + line.odd
    body.cut = max(gathered.cut, line.cut)
    return body


def gather(rules, state, line):
    if state.gathered is None:
        state.gathered = line
    else:
        state.gathered = joined(rules, state.gathered, line)


def finish(state):
    if state.gathered is None:
        return
    state.queue.append(Record(state.upcoming, state.gathered))
    state.upcoming += 1
    state.gathered = None


def is_letter(point):
    return 65 <= point <= 90 or 97 <= point <= 122


def is_head(rules, point):
    if rules.sign == "DIGIT":
        return 48 <= point <= 57
    if rules.sign == "LETTER":
        return is_letter(point)
    return point == rules.point


def begins_record(rules, points):
    if rules.how == "BLANK":
        return not points or points[0] not in (9, 32)
    return len(points) > 0 and is_head(rules, points[0])


def add_by_begin(rules, state, line):
    full = state.gathered is not None and state.gathered.lines >= rules.most
    if full or begins_record(rules, line.points):
        finish(state)
    gather(rules, state, line)


def without_last(line):
    return body_of(body_numbers(line), line.points[:-1])


def add_by_tail(rules, state, line):
    before = 0 if state.gathered is None else state.gathered.lines
    if line.points[-1:] == [rules.point] and before + 1 < rules.most:
        gather(rules, state, without_last(line))
    else:
        gather(rules, state, line)
        finish(state)


def add_line(rules, state, line):
    if rules.how == "TAIL":
        add_by_tail(rules, state, line)
    elif rules.how == "NONE":
        gather(rules, state, line)
        finish(state)
    else:
        add_by_begin(rules, state, line)
