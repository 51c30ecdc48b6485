"""Checkpoints: a sender's state written as a text, and read from one."""

from piecelines.frames import held_numbers, held_of
from piecelines.records import Record, body_numbers, body_of
from piecelines.states import State
from piecelines.words import told_line

CHECK_MODULUS = 65521

# Python turns texts of some thousand digits into numbers no more: they are read in stretches.
STRETCH = 18


class Checkpoint:
    def __init__(self, generation, state):
        self.generation = generation
        self.state = state


def check_of(text):
    return sum([ord(sign) * at for at, sign in enumerate(text, start=1)]) % CHECK_MODULUS


def gathered_line(gathered):
    if gathered is None:
        return "PEND"
    return told_line("PEND", body_numbers(gathered) + gathered.points)


def record_line(record):
    return told_line("REC", [record.number] + body_numbers(record.body) + record.body.points)


def checkpoint_text(generation, state):
    lines = [
        told_line("LOG", [generation, state.opened, state.is_open, state.place, state.upcoming]),
        told_line("SUMS", state.sums),
        told_line("HELD", held_numbers(state.held) + state.held.kept),
        gathered_line(state.gathered),
    ]
    lines.extend([record_line(record) for record in state.queue])
    ahead = "\n".join(lines) + "\n"
    return ahead + told_line("SUM", [check_of(ahead)])


def is_number(word):
    return word == "0" or word.isdigit() and word[0] != "0"


def number_of(word):
    first = len(word) % STRETCH
    number = int("0" + word[:first])
    for at in range(first, len(word), STRETCH):
        number = number * 10 ** 18 + int(word[at:at + STRETCH])
    return number


# The numbers behind the line's first word; None if the line isn't so.
def read_numbers(word, line):
    words = line.split(" ")
    if words[0] != word or not all([is_number(told) for told in words[1:]]):
        return None
    return [number_of(told) for told in words[1:]]


def are_flags(numbers):
    return all([number in (0, 1) for number in numbers])


def read_log(line):
    numbers = read_numbers("LOG", line)
    if numbers is None or len(numbers) != 5 or not are_flags(numbers[2:3]):
        return None
    state = State(numbers[1])
    state.is_open = numbers[2]
    state.place = numbers[3]
    state.upcoming = numbers[4]
    return Checkpoint(numbers[0], state)


def read_sums(line):
    numbers = read_numbers("SUMS", line)
    return numbers if numbers is not None and len(numbers) == 6 else None


def read_held(line):
    numbers = read_numbers("HELD", line)
    if numbers is None or len(numbers) < 10 or not are_flags(numbers[2:4] + numbers[7:9]):
        return None
    return held_of(numbers[:10], numbers[10:])


def read_body(numbers):
    if len(numbers) < 6 or not are_flags(numbers[5:6]):
        return None
    return body_of(numbers[:6], numbers[6:])


def read_record(line):
    numbers = read_numbers("REC", line)
    body = None if numbers is None else read_body(numbers[1:])
    return None if body is None else Record(numbers[0], body)


def is_check_right(text, line):
    ahead = text[:len(text) - len(line)]
    return line == told_line("SUM", [check_of(ahead)])


# Only whether the line is so: PEND alone tells that nothing is gathered.
def is_gathered_line(line):
    numbers = read_numbers("PEND", line)
    return numbers == [] or numbers is not None and read_body(numbers) is not None


def read_gathered(line):
    numbers = read_numbers("PEND", line)
    return read_body(numbers) if numbers else None


# The checkpoint that the text tells, or None if it can't be read as one.
def read_checkpoint(text):
    lines = text.split("\n")
    if len(lines) < 5 or not is_check_right(text, lines[-1]):
        return None
    checkpoint = read_log(lines[0])
    sums = read_sums(lines[1])
    held = read_held(lines[2])
    queue = [read_record(line) for line in lines[4:-1]]
    if checkpoint is None or sums is None or held is None or None in queue:
        return None
    if not is_gathered_line(lines[3]):
        return None
    checkpoint.state.sums = sums
    checkpoint.state.held = held
    checkpoint.state.gathered = read_gathered(lines[3])
    checkpoint.state.queue = queue
    return checkpoint
