"""The state of a sender: all that a checkpoint tells of it, and how bytes change it."""

from piecelines.decoding import decoded_bytes, decoded_utf8
from piecelines.frames import DROPPED, WHOLE, WRONG, Held, end_held, held_numbers, held_of, take_byte
from piecelines.records import Body, add_line, finish

# Where each of the six sums stands.
FRAMES_SUM = 0
DROPPED_SUM = 1
WRONG_SUM = 2
REFUSED_SUM = 3
EMPTY_SUM = 4
LOST_SUM = 5


class State:
    def __init__(self, opened):
        self.opened = opened
        self.is_open = 1
        self.place = 0
        self.upcoming = 0
        self.sums = [0, 0, 0, 0, 0, 0]
        self.held = Held(0)
        self.gathered = None
        self.queue = []


def copied_state(state):
    twin = State(state.opened)
    twin.is_open = state.is_open
    twin.place = state.place
    twin.upcoming = state.upcoming
    twin.sums = list(state.sums)
    twin.held = held_of(held_numbers(state.held), list(state.held.kept))
    twin.gathered = state.gathered
    twin.queue = list(state.queue)
    return twin


def decoded_line(rules, state, frame):
    decoded = decoded_bytes(frame.kept) if rules.decoding == "BYTES" else decoded_utf8(frame.kept)
    if rules.decoding == "STRICT" and decoded.marks > 0:
        state.sums[REFUSED_SUM] += 1
        state.sums[LOST_SUM] += len(frame.kept)
        return None
    line = Body(1, frame.begin, frame.upto, decoded.points)
    line.marks = decoded.marks
    line.odd = frame.odd
    line.cut = 0 if frame.fate == WHOLE else 1
    return line


# The frame's line, or None if it makes none.
def line_of(rules, state, frame):
    state.sums[FRAMES_SUM] += 1
    state.sums[LOST_SUM] += frame.lost
    if frame.fate == DROPPED:
        state.sums[DROPPED_SUM] += 1
        return None
    if frame.fate == WRONG:
        state.sums[WRONG_SUM] += 1
        return None
    if rules.empty == "SKIP" and not frame.kept:
        state.sums[EMPTY_SUM] += 1
        return None
    return decoded_line(rules, state, frame)


def add_frames(rules, state, frames):
    for frame in frames:
        line = line_of(rules, state, frame)
        if line is not None:
            add_line(rules, state, line)


def take_bytes(rules, state, row):
    for byte in row:
        frames = []
        take_byte(rules, state.held, state.place, byte, frames)
        state.place += 1
        add_frames(rules, state, frames)


def close_state(rules, state):
    frames = []
    end_held(rules, state.held, state.place, frames)
    add_frames(rules, state, frames)
    finish(state)
    state.held = Held(state.place)
    state.is_open = 0


# The records that these bytes are for a new sender that closes behind them.
def whole_records(rules, row):
    state = State(1)
    take_bytes(rules, state, row)
    close_state(rules, state)
    return state.queue
